/-
  BlockLimit is proved: for any two strings and any uint16 the statement's function returns true.
  Conditions: none beyond the row's own.
  The frame (all but the walk) is made after the one that the kit's proof-skeleton.mjs writes.
-/
import Derived.Test.YtgiicohbigiapaaGreatYbs
import Derived.ShutString
set_option maxRecDepth 100000
open Go.Proofs.Tryz
namespace Go.Proofs.YtgiicohbigiapaaGreat.blockLimit
open Go.ChangeShapes Go.WideShapes Go.ChangeAt Go.RowKit
open Go.ChangeMaps (open_string shut_string)
set_option linter.unusedVariables false
theorem own:ownKnob prog.godebug=none:=by kernel_rfl
theorem laidOut:laidOutB prog=true:=by kernel_rfl
theorem walk(s0:ByteArray)(s1:ByteArray)(a2:Int)(w:World)(w0:s0.size≤maxLen)(w1:s1.size≤maxLen)(w2:(Lit.int .u16 a2).wf=true) :
  Calls prog 6 #[.string s0,.string s1,.int .u16 a2] w fun e w'=>e=.returned (.bool true)∧Below w.heap.size w w':=by
 have h2:=bounds_u16 w2;obtain⟨X,rfl,hX⟩:=of_string s0;obtain⟨D,rfl,hD⟩:=of_string s1;rw[aA]at w0 w1;unfold maxLen at w0 w1;by_cases h:200<X.length∨X.length<1∨100<D.length
 ·exact Kl X D a2 w (by omega) (by omega) h
 ·obtain⟨c,hc⟩:∃c:Nat,a2=(c:Int):=⟨a2.toNat,by omega⟩;subst hc;exact Oj X D c w (by omega) (by omega) (by omega) hX hD (by omega)
theorem lifted(os:Os)(started:os.Started)(H:Type)(enc:TypeId×Value→H) :
  ReturnsInHanded {} Tryz.checked os 6 .any (Rows.blockLimitSpec.pre6 enc prog Tryz.f6 Rows.blockLimitRow.domain false) (Rows.blockLimitSpec.post enc prog Tryz.f6 false true false false):=by
 refine returnsInHanded_of_change (C:=Tryz.checked) own started (by kernel_rfl) func6
  (ChangeSpec.witness6 (enc:=enc) (C:=Tryz.checked) false ⟨#[],#[.string ⟨#[]⟩,.string ⟨#[]⟩,.int .u16 0],[]⟩ 8 (by kernel_rfl) (by kernel_rfl) (by kernel_rfl) (by kernel_rfl)) ?_
 intro W base args ds gs before hval0 hW hcnd _;have hval:∀(j:Nat) t v,Tryz.f6.params[j]?=some t→args[j]?=some v→Value.okWide prog W .any base t v:=hval0;have hW':=hW;obtain⟨p,q,hA0,hV,rfl,hfz,hnd⟩:=hW;have hA:DataW.TrodAll enc prog W 0 (fun _=>true) true Tryz.f6.params.toList args.toList ds p:=hA0;rw[params6]at hA hval;obtain⟨v0,vs0,d0,ds0,p0,q0,hargs,rfl,rfl,h0,r0⟩:=trodAll_cons hA;obtain⟨v1,vs1,d1,ds1,p1,q1,rfl,rfl,rfl,h1,r1⟩:=trodAll_cons r0;obtain⟨v2,vs2,d2,ds2,p2,q2,rfl,rfl,rfl,h2,r2⟩:=trodAll_cons r1;obtain⟨rfl,rfl,rfl⟩:=trodAll_nil r2;obtain rfl:args=#[v0,v1,v2]:=by cases args;simp_all
 obtain⟨rfl,rfl⟩:=trodVars_none hV;obtain⟨s0,rfl,rfl,rfl,w0⟩:=open_string underlying9 (hval 0 9 v0 rfl rfl) h0;obtain⟨s1,rfl,rfl,rfl,w1⟩:=open_string underlying9 (hval 1 9 v1 rfl rfl) h1;obtain⟨a2,rfl,rfl,rfl,w2⟩:=open_int underlying40 (hval 2 40 v2 rfl rfl) h2;clear hA0 hval0;refine(walk s0 s1 a2 W w0 w1 w2).mono fun e W' ⟨he,bel⟩=>?_
 subst he;exact⟨_,rfl,_,_,_,[],_,[],hW',trodAll_mk1 (shut_bool underlying4 _),(trodAll_cons_mk (shut_string underlying9 w0) (trodAll_cons_mk (shut_string underlying9 w1) (trodAll_cons_mk (shut_int underlying40 w2) trodAll_mk0))),rfl,bel.frame _,fun h=>by cases h⟩
theorem over:Rows.blockLimitRow.holds Tryz.pinned (OpenSpec.ofChange Rows.blockLimitSpec):=
 OpenClaim.holds_of_wide 6 Tryz.f6 rfl rfl rfl rfl rfl rfl rfl ⟨rfl,rfl,rfl,rfl,rfl⟩ rfl rfl rfl rfl rfl (by kernel_rfl) func6 (by kernel_rfl)
  (of_decide_eq_true (by kernel_rfl)) (by unfold Func.isWrapper;first | (rw[if_pos (by decide +kernel)];kernel_rfl) | (rw[if_neg (by decide +kernel)];exact⟨rfl,rfl⟩))
  (fun os started H enc _=>lifted os started H enc)
theorem proved:Rows.BlockLimitSaid:=over
#print axioms proved
end Go.Proofs.YtgiicohbigiapaaGreat.blockLimit
