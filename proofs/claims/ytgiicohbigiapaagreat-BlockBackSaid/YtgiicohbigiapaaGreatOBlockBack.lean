/-
  BlockBack is proved: for any array of two strings and any two ints the statement's function returns true, and its arguments read behind the call as they did before it.
  Conditions: none beyond the row's own.
  The frame (all but the walk) is made after the one that the kit's proof-skeleton.mjs writes.
-/
import Derived.Test.YtgiicohbigiapaaGreatObb
import Derived.Test.YtgiicohbigiapaaGreatObc
import Derived.Test.YtgiicohbigiapaaGreatOz1
import Derived.Test.YtgiicohbigiapaaGreatOz0
set_option maxRecDepth 100000
open Go.Proofs.Tryz Go.Proofs.YtgiicohbigiapaaGreat.am List Nat Option
namespace Go.Proofs.YtgiicohbigiapaaGreat.blockBack
open Go.ChangeShapes Go.WideShapes Go.ChangeAt Go.RowKit
open Go.ChangeMaps (open_string shut_string)
set_option linter.unusedVariables false
theorem own:ownKnob prog.godebug=none:=by kernel_rfl
theorem laidOut:laidOutB prog=true:=by kernel_rfl
theorem walk(x y:ByteArray)(fL:Int)(a2:Int)(w:ah)(ai:x.size<=maxLen)(hy:y.size<=maxLen)(aw:(Lit.int .i64 fL).wf=true)(aC:(Lit.int .i64 a2).wf=true) :
  Calls prog 3 #[.agg #[.string x,.string y],.int .i64 fL,.int .i64 a2] w λe w'=>e=.returned (.bool true)/\av w w':=by
 have af:=bounds_i64 aC;obtain⟨X,rfl,ck⟩:=of_string x;obtain⟨D,rfl,cH⟩:=of_string y;rw[cy]at ai hy;unfold maxLen at ai hy;by_cases h:600<X.length\/300<D.length
 .exact afc X D fL a2 w (by omega) (by omega) h
 .by_cases h1:(512<X.length\/256<D.length)\/(X.length<=512/\D.length<=256/\(fL<0\/1073741824<fL))
  .exact afa X D fL a2 w (by omega) (by omega) h1
  .obtain⟨c,hc⟩:∃c:Nat,fL=(c:Int):=⟨fL.toNat,by omega⟩;subst hc;exact afb X D c a2 w (by omega) (by omega) ck cH (by omega) af
theorem lifted(os:Os)(started:os.Started)(H:Type)(enc:TypeId×Value->H) :
  ReturnsInHanded {} Tryz.checked os 3 .any (Rows.blockBackSpec.pre6 enc prog Tryz.f3 Rows.blockBackRow.domain false) (Rows.blockBackSpec.post enc prog Tryz.f3 false true false false):=by
 refine returnsInHanded_of_change (C:=Tryz.checked) own started (by kernel_rfl) func3
  (ChangeSpec.witness6 (enc:=enc) (C:=Tryz.checked) false ⟨#[],#[.agg #[.string ⟨#[]⟩,.string ⟨#[]⟩],.int .i64 0,.int .i64 0],[]⟩ 8 (by kernel_rfl) (by kernel_rfl) (by kernel_rfl) (by kernel_rfl)) ?_
 intro W base args ds gs before hval0 bk hcnd _;have hval:∀(j:Nat) t v,Tryz.f3.params[j]?=some t->args[j]?=some v->Value.okWide prog W .any base t v:=hval0;have CT:=bk;obtain⟨p,q,xY,bW,rfl,avU,mU⟩:=bk;have hA:DataW.TrodAll enc prog W 0 (λ_=>true) true Tryz.f3.params.toList args.toList ds p:=xY;rw[params3]at hA hval;obtain⟨v0,axJ,d0,auH,lz,tJ,hargs,rfl,rfl,ao,gK⟩:=trodAll_cons hA;obtain⟨v1,axK,d1,auI,cl,gp,rfl,rfl,rfl,h1,gE⟩:=trodAll_cons gK;obtain⟨v2,axL,d2,auJ,cp,fl,rfl,rfl,rfl,af,c9⟩:=trodAll_cons gE;obtain⟨rfl,rfl,rfl⟩:=trodAll_nil c9;obtain rfl:args=#[v0,v1,v2]:=by cases args;simp_all
 obtain⟨rfl,rfl⟩:=trodVars_none bW;have bD:=ao;have amP:∀x∈lz,x.block<W.heap.size:=by obtain⟨m,hm⟩:=bD;exact DataW.trod_lt m _ _ _ hm
 obtain⟨x,y,rfl,ai,hy⟩:∃x y:ByteArray,v0=.agg #[.string x,.string y]/\x.size<=maxLen/\y.size<=maxLen:=by
  obtain⟨fuel,aL⟩:=ao;exact ae2 (hval 0 22 v0 rfl rfl) aL
 obtain⟨fL,rfl,rfl,rfl,aw⟩:=open_int underlying3 (hval 1 3 v1 rfl rfl) h1;obtain⟨a2,rfl,rfl,rfl,aC⟩:=open_int underlying3 (hval 2 3 v2 rfl rfl) af;clear xY hval0;refine(walk x y fL a2 W ai hy aw aC).mono λe bb ⟨he,dn⟩=>?_
 subst he;exact⟨_,rfl,_,_,_,[],_,[],CT,trodAll_mk1 (shut_bool underlying4 _),(trodAll_cons_mk (Below.trod laidOut (by kernel_rfl) (of_decide_eq_true (by kernel_rfl)) bD dn amP) (trodAll_cons_mk (shut_int underlying3 aw) (trodAll_cons_mk (shut_int underlying3 aC) trodAll_mk0))),rfl,dn.frame _,λh=>by cases h⟩
theorem over:Rows.blockBackRow.holds Tryz.pinned (OpenSpec.ofChange Rows.blockBackSpec):=
 OpenClaim.holds_of_wide 3 Tryz.f3 rfl rfl rfl rfl rfl rfl rfl ⟨rfl,rfl,rfl,rfl,rfl⟩ rfl rfl rfl rfl rfl (by kernel_rfl) func3 (by kernel_rfl)
  (of_decide_eq_true (by kernel_rfl)) (by unfold Func.isWrapper;first|(rw[aB (by decide +kernel)];kernel_rfl)|(rw[az (by decide +kernel)];exact⟨rfl,rfl⟩))
  (λos started H enc _=>lifted os started H enc)
theorem proved:Rows.BlockBackSaid:=over
#print axioms proved
end Go.Proofs.YtgiicohbigiapaaGreat.blockBack
