/-
  BlockAny is proved: for any two strings and any int the statement's function returns true.
  Conditions: none beyond the row's own.
  The frame (all but the walk) is made after the one that the kit's proof-skeleton.mjs writes.
-/
import Derived.Test.YtgiicohbigiapaaGreatQbb
import Derived.ShutString
import Derived.Test.YtgiicohbigiapaaGreatQz1
import Derived.Test.YtgiicohbigiapaaGreatQz0
set_option maxRecDepth 100000
open Go.Proofs.Tryz Go.Proofs.YtgiicohbigiapaaGreat.ao List Nat Option
namespace Go.Proofs.YtgiicohbigiapaaGreat.blockAny
open Go.ChangeShapes Go.WideShapes Go.ChangeAt Go.RowKit
open Go.ChangeMaps (open_string shut_string)
set_option linter.unusedVariables false
theorem own:ownKnob prog.godebug=none:=by kernel_rfl
theorem laidOut:laidOutB prog=true:=by kernel_rfl
theorem walk(s0:ByteArray)(s1:ByteArray)(a2:Int)(w:ai)(w0:s0.size<=maxLen)(au:s1.size<=maxLen)(aB:(Lit.int .i64 a2).wf=true) :
  Calls prog 4 #[.string s0,.string s1,.int .i64 a2] w λe w'=>e=.returned (.bool true)/\Below w.heap.size w w':=by
 obtain⟨S,rfl,cu⟩:=of_string s0;obtain⟨D,rfl,cR⟩:=of_string s1;rw[cZ]at w0 au;unfold maxLen at w0 au;by_cases h:120<S.length\/100<D.length
 .exact aeX S D a2 w (by omega) (by omega) h
 .exact aeW S D a2 w (by omega) (by omega) cu cR
theorem lifted(os:Os)(started:os.Started)(H:Type)(enc:TypeId×Value->H) :
  ReturnsInHanded {} Tryz.checked os 4 .any (Rows.blockAnySpec.pre6 enc prog Tryz.f4 Rows.blockAnyRow.domain false) (Rows.blockAnySpec.post enc prog Tryz.f4 false true false false):=by
 refine returnsInHanded_of_change (C:=Tryz.checked) own started (by kernel_rfl) func4
  (ChangeSpec.witness6 (enc:=enc) (C:=Tryz.checked) false ⟨#[],#[.string ⟨#[]⟩,.string ⟨#[]⟩,.int .i64 0],[]⟩ 8 (by kernel_rfl) (by kernel_rfl) (by kernel_rfl) (by kernel_rfl)) ?_
 intro W base args ds gs before hval0 bg hcnd _;have hval:∀(j:Nat) t v,Tryz.f4.params[j]?=some t->args[j]?=some v->Value.okWide prog W .any base t v:=hval0;have DK:=bg;obtain⟨p,q,yT,bY,rfl,avy,ns⟩:=bg;have hA:DataW.TrodAll enc prog W 0 (λ_=>true) true Tryz.f4.params.toList args.toList ds p:=yT;rw[params4]at hA hval;obtain⟨v0,axh,d0,aul,ml,ur,hargs,rfl,rfl,am,gW⟩:=trodAll_cons hA;obtain⟨v1,axi,d1,aum,cj,gy,rfl,rfl,rfl,h1,gO⟩:=trodAll_cons gW;obtain⟨v2,axj,d2,aun,cn,ft,rfl,rfl,rfl,af,dc⟩:=trodAll_cons gO;obtain⟨rfl,rfl,rfl⟩:=trodAll_nil dc;obtain rfl:args=#[v0,v1,v2]:=by cases args;simp_all
 obtain⟨rfl,rfl⟩:=trodVars_none bY;obtain⟨s0,rfl,rfl,rfl,w0⟩:=open_string underlying9 (hval 0 9 v0 rfl rfl) am;obtain⟨s1,rfl,rfl,rfl,au⟩:=open_string underlying9 (hval 1 9 v1 rfl rfl) h1;obtain⟨a2,rfl,rfl,rfl,aB⟩:=open_int underlying3 (hval 2 3 v2 rfl rfl) af;clear yT hval0;refine(walk s0 s1 a2 W w0 au aB).mono λe bc ⟨he,dy⟩=>?_
 subst he;exact⟨_,rfl,_,_,_,[],_,[],DK,trodAll_mk1 (shut_bool underlying4 _),(trodAll_cons_mk (shut_string underlying9 w0) (trodAll_cons_mk (shut_string underlying9 au) (trodAll_cons_mk (shut_int underlying3 aB) trodAll_mk0))),rfl,dy.frame _,λh=>by cases h⟩
theorem over:Rows.blockAnyRow.holds Tryz.pinned (OpenSpec.ofChange Rows.blockAnySpec):=
 OpenClaim.holds_of_wide 4 Tryz.f4 rfl rfl rfl rfl rfl rfl rfl ⟨rfl,rfl,rfl,rfl,rfl⟩ rfl rfl rfl rfl rfl (by kernel_rfl) func4 (by kernel_rfl)
  (of_decide_eq_true (by kernel_rfl)) (by unfold Func.isWrapper;first | (rw[aA (by decide +kernel)];kernel_rfl) | (rw[ay (by decide +kernel)];exact⟨rfl,rfl⟩))
  (λos started H enc _=>lifted os started H enc)
theorem proved:Rows.BlockAnySaid:=over
#print axioms proved
end Go.Proofs.YtgiicohbigiapaaGreat.blockAny
