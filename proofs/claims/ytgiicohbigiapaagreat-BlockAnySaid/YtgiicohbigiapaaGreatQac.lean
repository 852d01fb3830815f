/- Contracts. -/
import Derived.Test.YtgiicohbigiapaaGreatQab
import Derived.BigQuiet
import Derived.Deep.DeepCutAuto
import Derived.Test.YtgiicohbigiapaaGreatQz1
import Derived.Test.YtgiicohbigiapaaGreatQz0
set_option maxHeartbeats 4000000
set_option maxRecDepth 100000
open Go.Proofs.Tryz Go.Proofs.YtgiicohbigiapaaGreat.ao List Nat Option
namespace Go.Proofs.YtgiicohbigiapaaGreat
open Go.RowKit
theorem alC(a b c x:Int)(w:ai)(ah:-9223372036854775808<=x/\x<=9223372036854775807):Calls prog 122 #[.agg #[.int .i64 a,.int .i64 b,.int .i64 c],.int .i64 x] w λe w'=>e=.returned (.int .i64 (ht a b c x))/\Below w.heap.size w w':=by
 obtain⟨r,aj⟩:∃r,r=ht a b c x:=⟨_,rfl⟩;have bS:=aj;rw[<-aj];unfold ht at bS;clear aj;go_enter func122,ntmps122
 by_cases h1:x<1
 .rw[aA (.inl h1)]at bS;subst bS;have d1:decide (x<1)=true:=bG h1;go_wp2;go_ret;exact⟨rfl,dQ.alloc bh _⟩
 .have d1:decide (x<1)=false:=bF h1;by_cases af:65533<x
  .rw[aA (.inr af)]at bS;subst bS;have d2:decide (65533<x)=true:=bG af;go_wp2;go_ret;exact⟨rfl,dQ.alloc bh _⟩
  .have d2:decide (65533<x)=false:=bF af;rw[ay (by omega)]at bS;go_wp2;refine wp_loop_rounds 4 ?_;by_cases aS:a=x
   .rw[aA aS]at bS;have AY:(a == x)=true:=by simp[aS]
    subst bS;rw[rounds_succ];go_wp2;go_ret;exact⟨rfl,dQ.alloc bh _⟩
   .have AY:(a == x)=false:=by simp[aS]
    rw[ay aS]at bS;rw[rounds_succ];go_wp2;by_cases ak:b=x
    .rw[aA ak]at bS;have GZ:(b == x)=true:=by simp[ak]
     subst bS;rw[rounds_succ];go_wp2;go_ret;exact⟨rfl,dQ.alloc bh _⟩
    .have GZ:(b == x)=false:=by simp[ak]
     rw[ay ak]at bS;rw[rounds_succ];go_wp2;by_cases hc:c=x
     .rw[aA hc]at bS;have G0:(c == x)=true:=by simp[hc]
      subst bS;rw[rounds_succ];go_wp2;go_ret;exact⟨rfl,dQ.alloc bh _⟩
     .have G0:(c == x)=false:=by simp[hc]
      rw[ay hc]at bS;subst bS;rw[rounds_succ];go_wp2;rw[rounds_succ];go_wp2;go_ret;exact⟨rfl,dQ.alloc bh _⟩
theorem alA(a b c x:Int)(r:Int×Int×Int)(w:ai)(PX rK abN:Bool)(AY:(a == x)=PX)(GZ:(b == x)=rK)(G0:(c == x)=abN)(aj:r=cond PX (x,b,c) (cond rK (x,a,c) (x,a,b))):Calls prog 85 #[.agg #[.int .i64 a,.int .i64 b,.int .i64 c],.int .i64 x] w λe w'=>e=.returned (.agg #[.int .i64 r.1,.int .i64 r.2.1,.int .i64 r.2.2])/\Below w.heap.size w w':=by
 cases PX<;>cases rK<;>cases abN
 all_goals
  subst aj;go_enter func85,ntmps85
  go_wp2;refine wp_loop_rounds 4 ?_;rw[rounds_succ];go_wp2;rw[rounds_succ];go_wp2;rw[rounds_succ];go_wp2
  try
   rw[rounds_succ];go_wp2
  refine bodyPost_ret (by simp[results,results85,go_sem]) rfl ⟨rfl,((dQ.alloc bh _).alloc (by simp) _).alloc (by simp;omega) _⟩
theorem alz(a b c x:Int)(w:ai):Calls prog 85 #[.agg #[.int .i64 a,.int .i64 b,.int .i64 c],.int .i64 x] w λe w'=>e=.returned (.agg #[.int .i64 (hx a b c x).1,.int .i64 (hx a b c x).2.1,.int .i64 (hx a b c x).2.2])/\Below w.heap.size w w':=by
 refine alA a b c x _ w _ _ _ rfl rfl rfl ?_;unfold hx;by_cases aS:a=x
 .rw[aA aS,show(a == x)=true by simp[aS]];rfl
 .rw[ay aS,show(a == x)=false by simp[aS]];by_cases ak:b=x
  .rw[aA ak,show(b == x)=true by simp[ak]];rfl
  .rw[ay ak,show(b == x)=false by simp[ak]];rfl
end Go.Proofs.YtgiicohbigiapaaGreat
