/- Contracts. -/
import Derived.Test.YtgiicohbigiapaaGreatOab
import Derived.BigQuiet
import Derived.Deep.DeepCutAuto
import Derived.Test.YtgiicohbigiapaaGreatOz1
import Derived.Test.YtgiicohbigiapaaGreatOz0
set_option maxHeartbeats 4000000
set_option maxRecDepth 100000
open Go.Proofs.Tryz Go.Proofs.YtgiicohbigiapaaGreat.am List Nat Option
namespace Go.Proofs.YtgiicohbigiapaaGreat
open Go.RowKit
theorem alZ(a b c x:Int)(w:ah)(ai:-9223372036854775808<=x/\x<=9223372036854775807):Calls prog 122 #[.agg #[.int .i64 a,.int .i64 b,.int .i64 c],.int .i64 x] w λe w'=>e=.returned (.int .i64 (hb a b c x))/\av w w':=by
 obtain⟨r,aj⟩:∃r,r=hb a b c x:=⟨_,rfl⟩;have bS:=aj;rw[<-aj];unfold hb at bS;clear aj;go_enter func122,ntmps122
 by_cases h1:x<1
 .rw[aB (.inl h1)]at bS;subst bS;have d1:decide (x<1)=true:=bE h1;go_wp2;go_ret;exact⟨rfl,dM.alloc bl _⟩
 .have d1:decide (x<1)=false:=bG h1;by_cases af:65533<x
  .rw[aB (.inr af)]at bS;subst bS;have d2:decide (65533<x)=true:=bE af;go_wp2;go_ret;exact⟨rfl,dM.alloc bl _⟩
  .have d2:decide (65533<x)=false:=bG af;rw[az (by omega)]at bS;go_wp2;refine wp_loop_rounds 4 ?_;by_cases aV:a=x
   .rw[aB aV]at bS;have Cy:(a==x)=true:=by simp[aV]
    subst bS;rw[rounds_succ];go_wp2;go_ret;exact⟨rfl,dM.alloc bl _⟩
   .have Cy:(a==x)=false:=by simp[aV]
    rw[az aV]at bS;rw[rounds_succ];go_wp2;by_cases ak:b=x
    .rw[aB ak]at bS;have FL:(b==x)=true:=by simp[ak]
     subst bS;rw[rounds_succ];go_wp2;go_ret;exact⟨rfl,dM.alloc bl _⟩
    .have FL:(b==x)=false:=by simp[ak]
     rw[az ak]at bS;rw[rounds_succ];go_wp2;by_cases hc:c=x
     .rw[aB hc]at bS;have FM:(c==x)=true:=by simp[hc]
      subst bS;rw[rounds_succ];go_wp2;go_ret;exact⟨rfl,dM.alloc bl _⟩
     .have FM:(c==x)=false:=by simp[hc]
      rw[az hc]at bS;subst bS;rw[rounds_succ];go_wp2;rw[rounds_succ];go_wp2;go_ret;exact⟨rfl,dM.alloc bl _⟩
theorem alX(a b c x:Int)(r:Int×Int×Int)(w:ah)(OZ rf ZT:Bool)(Cy:(a==x)=OZ)(FL:(b==x)=rf)(FM:(c==x)=ZT)(aj:r=cond OZ (x,b,c) (cond rf (x,a,c) (x,a,b))):Calls prog 85 #[.agg #[.int .i64 a,.int .i64 b,.int .i64 c],.int .i64 x] w λe w'=>e=.returned (.agg #[.int .i64 r.1,.int .i64 r.2.1,.int .i64 r.2.2])/\av w w':=by
 cases OZ<;>cases rf<;>cases ZT
 all_goals
  subst aj;go_enter func85,ntmps85
  go_wp2;refine wp_loop_rounds 4 ?_;rw[rounds_succ];go_wp2;rw[rounds_succ];go_wp2;rw[rounds_succ];go_wp2
  try
   rw[rounds_succ];go_wp2
  refine bodyPost_ret (by simp[results,results85,go_sem]) rfl ⟨rfl,((dM.alloc bl _).alloc (by simp) _).alloc (by simp;omega) _⟩
theorem alW(a b c x:Int)(w:ah):Calls prog 85 #[.agg #[.int .i64 a,.int .i64 b,.int .i64 c],.int .i64 x] w λe w'=>e=.returned (.agg #[.int .i64 (hn a b c x).1,.int .i64 (hn a b c x).2.1,.int .i64 (hn a b c x).2.2])/\av w w':=by
 refine alX a b c x _ w _ _ _ rfl rfl rfl ?_;unfold hn;by_cases aV:a=x
 .rw[aB aV,show(a==x)=true by simp[aV]];rfl
 .rw[az aV,show(a==x)=false by simp[aV]];by_cases ak:b=x
  .rw[aB ak,show(b==x)=true by simp[ak]];rfl
  .rw[az ak,show(b==x)=false by simp[ak]];rfl
end Go.Proofs.YtgiicohbigiapaaGreat
