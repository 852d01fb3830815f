/- Contracts, and what they rest on. Conditions: the theorems' premises. -/
import Derived.Test.YtaebnkeddcbmkaaGreatYab
import Derived.Lib.Hide
import Derived.BigQuiet
import Derived.StillTailTactics
import Derived.Laws.AppendOwnNone
import Derived.Deep.DeepCutAuto
set_option maxHeartbeats 4000000
set_option maxRecDepth 100000
open Go.Lib(hid)
open Go.Proofs.Tryz Go.Proofs.YtaebnkeddcbmkaaGreat.Bm
namespace Go.Proofs.YtaebnkeddcbmkaaGreat
open Go.RowKit
theorem vS(n:Nat)(h:n<2^64):IntKind.u64.wrap (n:Int)=(n:Int):=by
 have:IntKind.u64.wrap (n:Int)=(n:Int)%18446744073709551616:=by simp[IntKind.wrap,IntKind.bits,IntKind.signed]
 rw[this];omega
theorem or_val(rest x a:Nat)(hr:rest<2^64):bits .or .u64 (rest:Int) (IntKind.u64.wrap ((x:Int)*2^a))=((rest ||| x*2^a%2^64:Nat):Int):=by
 have e:(x:Int)*2^a=((x*2^a:Nat):Int):=by simp
 have e2:IntKind.u64.wrap ((x*2^a:Nat):Int)=((x*2^a%2^64:Nat):Int):=by
  have:IntKind.u64.wrap ((x*2^a:Nat):Int)=((x*2^a:Nat):Int)%18446744073709551616:=by simp[IntKind.wrap,IntKind.bits,IntKind.signed]
  rw[this];omega
 rw[e,e2,u64_or_nat _ _ hr (by exact Nat.mod_lt _ (by decide))]
theorem adg(v m:Nat):(v:Int)%2^m=((v%2^m:Nat):Int):=by simp
theorem gu{w:World}{A:Option Addr}{l:List Nat}(h:Reads w A (u8s l))(hne:l≠[]):∃g off,A=some ⟨g,off,none⟩/\∀j (hj:j<l.length),w.cell? ⟨g,off+j,none⟩=some (.int .u8 (l[j]:Int)):=by
 obtain⟨g,off,e,hc⟩:=h (by simpa [u8s]using hne);exact⟨g,off,e,fun j hj=>by rw[hc j (by simpa [u8s]using hj),bD l j hj]⟩
theorem Cx{w:World}{base:Nat}{e:TypeId}{v:Value}{n:Nat}{xs:List Value}(h:w.ownsRow base e 1 v n xs)(hn:0<n):∃g cap,v=.slice (some ⟨g,0,none⟩) n cap/\base<=g/\g<w.heap.size:=by
 rcases h.2 with⟨_,h0⟩ | ⟨g,cap,cur,hv,hb,hh,_⟩
 ·omega
 ·refine⟨g,cap,hv,hb,?_⟩;rcases Nat.lt_or_ge g w.heap.size with h1 | h1
  ·exact h1
  ·rw[Array.getElem?_eq_none h1]at hh;cases hh
theorem own_below{w w':World}{base:Nat}{e:TypeId}{v:Value}{n:Nat}{xs:List Value}(h:w.ownsRow base e 1 v n xs)(hb:Below w.heap.size w w'):w'.ownsRow base e 1 v n xs:=
 h.kept (row:=none) (ak hb none) (by cases v.ownBlock<;>simp)
theorem iB(g j:Nat):((⟨g,0,none⟩:Addr).add j)=⟨g,j,none⟩:=by
 unfold Addr.add;split<;>simp_all
theorem dP{w:World}{base:Nat}{e:TypeId}{v:Value}{n:Nat}{xs:List Value}(h:w.ownsRow base e 1 v n xs):∃A c,v=.slice A n c/\Reads w A xs/\(∀a,A=some a->base<=a.block/\a.block<w.heap.size/\∃cs fz,w.heap[a.block]?=some (.cells cs e fz)):=by
 rcases Nat.eq_zero_or_pos n with h0 | h0
 ·subst h0;have hl:xs=[]:=List.eq_nil_of_length_eq_zero (by simpa using h.1);subst hl;rcases h.2 with⟨hv,_⟩ | ⟨g,cap,cur,hv,hb,hh,_⟩
  ·exact⟨none,0,hv,fun h=>absurd rfl h,fun a e=>by cases e⟩
  ·refine⟨some ⟨g,0,none⟩,cap,hv,fun h=>absurd rfl h,fun a e=>?_⟩;injection e with e
   subst e;refine⟨hb,?_,_,_,hh⟩;rcases Nat.lt_or_ge g w.heap.size with h1 | h1
   ·exact h1
   ·rw[Array.getElem?_eq_none h1]at hh;cases hh
 ·rcases h.2 with⟨_,h1⟩ | ⟨g,cap,cur,hv,hb,hh,h3⟩
  ·omega
  ·refine⟨some ⟨g,0,none⟩,cap,hv,fun _=>⟨g,0,rfl,fun j hj=>?_⟩,fun a e=>?_⟩
   ·have hc:=h.cells (g:=g) (by rw[hv];rfl) j (xs[j]) (List.getElem?_eq_getElem hj);rw[iB]at hc;rw[Nat.zero_add,hc,List.getElem?_eq_getElem hj]
   ·injection e with e
    subst e;refine⟨hb,?_,_,_,hh⟩;rcases Nat.lt_or_ge g w.heap.size with h1 | h1
    ·exact h1
    ·rw[Array.getElem?_eq_none h1]at hh;cases hh
theorem KI(v k:Nat):(v:Int)/2^(8*k)%256=((v/256^k%256:Nat):Int):=by rw[tH];simp
theorem aJ{w w':World}(h:w.grownBy w' none):Below w.heap.size w w':=⟨h.os,h.tape,h.output,h.size,fun k hk=>h.block k hk (by simp)⟩
theorem bP{w:World}{g:Nat}{t:TypeId}{cs:List Value}(h:Row w g t cs):Reads w (some ⟨g,0,none⟩) cs:=fun _=>⟨g,0,rfl,fun j _=>by rw[Nat.zero_add];exact h.cell j⟩
theorem UZ{w:World}{base g n cap:Nat}{e:TypeId}{xs:List Value}(h:w.ownsRow base e 1 (.slice (some ⟨g,0,none⟩) n cap) n xs):n<=cap/\cap<=maxLen:=by
 rcases h.2 with⟨hv,_⟩ | ⟨g',cap',cur,hv,hb,hh,h1,h2,_⟩
 ·cases hv
 ·injection hv with _ _ e3
  subst e3;exact⟨h1,h2⟩
theorem JD{w:World}{g:Nat}{xs:List Value}(h:Reads w (some ⟨g,0,none⟩) xs)(hg:g<w.heap.size)(o:Obj):Reads (w.alloc o) (some ⟨g,0,none⟩) xs:=fun hne=>by
 obtain⟨g',off,e,hc⟩:=h hne;injection e with e
 injection e with e1 e2
 subst e1 e2;exact⟨_,_,rfl,fun j hj=>by rw[World.cell?_alloc_lt _ _ _ (by exact hg)];exact hc j hj⟩
theorem Aq{w:World}{g off:Nat}{xs:List Value}(h:Reads w (some ⟨g,off,none⟩) xs):∀j u,xs[j]?=some u->w.cell? ((⟨g,off,none⟩:Addr).add j)=some u:=by
 intro j u hj;have hjl:j<xs.length:=by
  rcases Nat.lt_or_ge j xs.length with h1 | h1
  ·exact h1
  ·rw[List.getElem?_eq_none h1]at hj;cases hj
 obtain⟨g',off',e,hc⟩:=h (by intro e;rw[e]at hjl;simp at hjl);injection e with e
 injection e with e1 e2
 subst e1 e2;have e:((⟨g,off,none⟩:Addr).add j)=⟨g,off+j,none⟩:=by unfold Addr.add;split<;>simp_all
 rw[e,hc j hjl,hj]
open Go.Maps Go.Proofs.YtaebnkeddcbmkaaGreat.Bm
open Go.WideMaps (keyOf_string_mk)
theorem akv:Keyed prog 9:=string_keyed underlying9
theorem XC(w:World):(zeroValue 3).run prog w=.ok (.int .i64 0) w:=by kernel_rfl
def kS(s:ByteArray):Lit:=.string s.data.toList
theorem ade(s:ByteArray):WideAt.IsKeyLit (kS s):=trivial
theorem Lp{s t:ByteArray}(h:s≠t):kS s≠kS t:=fun e=>by
 injection e with e
 exact h (ByteArray.ext (Array.toList_inj.1 e))
def QJ(F:ByteArray->Option Nat)(s:ByteArray)(o:Option Nat):ByteArray->Option Nat:=fun u=>if u=s then o else F u
theorem rR(F:ByteArray->Option Nat)(s:ByteArray)(o:Option Nat):QJ F s o s=o:=if_pos rfl
theorem ow(F:ByteArray->Option Nat){s u:ByteArray}(o:Option Nat)(h:u≠s):QJ F s o u=F u:=if_neg h
def jy(w:World)(b n:Nat)(F:ByteArray->Option Nat):Prop:=∃D:DataW Unit,w.ownsMap prog 9 (plainElem prog 3) b n D /\
 ∀s:ByteArray,Maps.has D (kS s)=(F s).isSome/\D.atKey (kS s) (.lit (.int .i64 0))=.lit (.int .i64 (((F s).getD 0:Nat):Int))
section
variable {w w':World} {b n:Nat} {F:ByteArray->Option Nat}
theorem EP(w:World):jy (w.alloc (.map #[] 0)) w.heap.size 0 (fun _=>none):=⟨.map [],World.ownsMap_made _ _ _ _,fun _=>⟨rfl,rfl⟩⟩
theorem jy.lt(h:jy w b n F):b<w.heap.size:=by obtain⟨D,h1,_⟩:=h;exact h1.lt
theorem jy.mono(h:jy w b n F){n':Nat}(hn:n<=n'):jy w b n' F:=by obtain⟨D,h1,h2⟩:=h;exact⟨D,h1.mono hn,h2⟩
theorem jy.keep(h:jy w b n F)(hb:w'.heap[b]?=w.heap[b]?):jy w' b n F:=by
 obtain⟨D,⟨es,clock,h1,h2⟩,h3⟩:=h;exact⟨D,⟨es,clock,hb.trans h1,h2⟩,h3⟩
theorem jy.kept{row:Option Nat}(h:jy w b n F)(hg:w.grownBy w' row)(hne:some b≠row):jy w' b n F:=h.keep (hg.block b h.lt hne)
theorem jy.below(h:jy w b n F)(hb:Below w.heap.size w w'):jy w' b n F:=h.keep (hb.block b h.lt)
theorem jy.aao(h:jy w b n F)(t:TypeId)(cs:List Value):¬Row w b t cs:=fun hr=>by
 obtain⟨D,⟨es,clock,h1,_⟩,_⟩:=h;unfold Row at hr;rw[h1]at hr;cases hr
theorem jy.ne{g:Nat}{t:TypeId}{cs:List Value}(h:jy w b n F)(hr:Row w g t cs):b≠g:=by
 rintro rfl;exact h.aao t cs hr
end
section
variable (w:World) {ops:Array Oper} {rest:List Oper} {o:Oper} {a:Act} {Q:Exit->Act->World->Prop}
theorem rW(hg:o.guard=none)(m x:Operand)(t:TypeId)(hop:o.op=Op.lookup t m x false)(ht:prog.underlying t=some (.map 9 3))(b n:Nat)(F:ByteArray->Option Nat)
  (hm:a.eval m=.map (some b)) (hown:jy w b n F) (s:ByteArray) (v:Nat) (hv:(F s).getD 0=v) (hx:a.eval x=.string s) (hs:s.size<=maxLen)
  (hK:wpList prog ops Q rest (a.put o.dst (.int .i64 (v:Int))) w):wpList prog ops Q (o :: rest) a w:=by
 obtain⟨D,h1,h2⟩:=hown;refine wpList_lookup_own_int w hg m x t hop 9 3 .i64 akv ht underlying3 (XC w) b n D hm h1 _ (kS s) hx (keyOf_string_mk underlying9 hs) ?_;intro c hat _;rw[(h2 s).2]at hat;injection hat with hat
 injection hat with _ hat
 rw[<-hat,hv];exact hK
theorem qc(hg:o.guard=none)(m x:Operand)(t:TypeId)(hop:o.op=Op.lookup t m x true)(ht:prog.underlying t=some (.map 9 3))(b n:Nat)(F:ByteArray->Option Nat)
  (hm:a.eval m=.map (some b)) (hown:jy w b n F) (s:ByteArray) (v:Nat) (ok:Bool) (hv:(F s).getD 0=v) (hok:(F s).isSome=ok) (hx:a.eval x=.string s) (hs:s.size<=maxLen)
  (hK:wpList prog ops Q rest (a.put o.dst (.tuple #[.int .i64 (v:Int),.bool ok])) w):wpList prog ops Q (o :: rest) a w:=by
 obtain⟨D,h1,h2⟩:=hown;refine wpList_lookup_own_ok_int w hg m x t hop 9 3 .i64 akv ht underlying3 (XC w) b n D hm h1 _ (kS s) hx (keyOf_string_mk underlying9 hs) ?_;intro c hat _;rw[(h2 s).2]at hat;injection hat with hat
 injection hat with _ hat
 rw[<-hat,(h2 s).1,hv,hok];exact hK
theorem nI(hg:o.guard=none)(m x v:Operand)(t:TypeId)(hop:o.op=Op.mapUpdate t m x v)(ht:prog.underlying t=some (.map 9 3))(b n:Nat)(F:ByteArray->Option Nat)
  (hm:a.eval m=.map (some b)) (hown:jy w b n F) (hn:n<=1000000000) (s:ByteArray) (y:Int) (k:Nat) (hx:a.eval x=.string s) (hv:a.eval v=.int .i64 y) (hy:y=(k:Int)) (hk:k<=1000000000) (hs:s.size<=maxLen)
  (hK:∀w',jy w' b (n+1) (QJ F s (some k))->w.grownBy w' (some b)->wpList prog ops Q rest (a.put o.dst undef) w'):wpList prog ops Q (o :: rest) a w:=by
 obtain⟨D,h1,h2⟩:=hown;subst hy;refine wpList_mapUpdate_own w hg m x v t hop 9 3 akv ht _ b n D hm h1 (by unfold maxLen;omega) _ _ (kS s) hx hv (keyOf_string_mk underlying9 hs) _ [] (plainElem_int underlying3 (WalkArith.wf_i64 (by omega))) ?_;intro w' h3 h4;refine hK w' ⟨_,h3,fun u=>?_⟩ h4;by_cases e:u=s
 ·subst e;rw[rR];exact⟨has_put_same h1.isMap (ade u) _,atKey_put_same h1.isMap (ade u) _ _⟩
 ·rw[ow F _ e,has_put_other (Lp e),atKey_put_other (Lp e)];exact h2 u
theorem Qt(hg:o.guard=none)(m x:Operand)(t:TypeId)(hop:o.op=Op.call {callee:=Callee.builtin Builtin.delete,args:=#[m,x],argTypes:=#[t,9]})(ht:prog.underlying t=some (.map 9 3))(b n:Nat)(F:ByteArray->Option Nat)
  (hm:a.eval m=.map (some b)) (hown:jy w b n F) (s:ByteArray) (hx:a.eval x=.string s) (hs:s.size<=maxLen)
  (hK:∀w',jy w' b n (QJ F s none)->w.grownBy w' (some b)->wpList prog ops Q rest (a.put o.dst (.tuple #[])) w'):wpList prog ops Q (o :: rest) a w:=by
 obtain⟨D,h1,h2⟩:=hown;refine wpList_delete_own w hg m x t 9 hop 3 akv ht _ b n D hm h1 _ (kS s) hx (keyOf_string_mk underlying9 hs) ?_;intro w' h3 h4;refine hK w' ⟨_,h3,fun u=>?_⟩ h4.grown;by_cases e:u=s
 ·subst e;rw[rR];exact⟨has_del_same,atKey_del_same _⟩
 ·rw[ow F _ e,has_del_other (Lp e),atKey_del_other (Lp e)];exact h2 u
end
theorem jh:(prog.info? 5).map (fun i=>(i.zero,i.size,i.bytes))=some (some (.int .u8 0),1,1):=by kernel_rfl
theorem nX{w:World}{base g n:Nat}(h:w.ownsRow base 5 1 (.slice (some ⟨g,0,none⟩) n n) n (madeCells #[Value.int .u8 0] n).toList):Row w g 5 (u8s (List.replicate n 0)):=by
 rcases h.2 with⟨hv,_⟩ | ⟨g',cap,cur,hv,hb,hh,h1,h2,h3,h4⟩
 ·cases hv
 ·injection hv with e1 e2 e3
  injection e1 with e1
  injection e1 with e1
  subst e1 e3;have e:cur.toList=u8s (List.replicate n 0):=by
   rw[List.take_of_length_le (by rw[Array.length_toList];omega)]at h4;rw[h4,toList_madeCells_one];simp only[u8s,List.map_replicate];rfl
  unfold Row;rw[<-e,Array.toArray_toList];exact hh
theorem bS(w:World)(A:Option Addr)(c:Nat)(bs:List Nat)(hbs:∀b∈bs,b<256)(hr:Reads w A (u8s bs)) :
  (convert 60 9 (.slice A bs.length c)).run prog w=.ok (.string (strOf bs)) w:=by
 have key:∀a:Addr,(∀j (hj:j<bs.length),w.cell? (a.add j)=some (.int .u8 (bs[j]:Int)))->(convert 60 9 (.slice (some a) bs.length c)).run prog w=.ok (.string (strOf bs)) w:=by
  intro a ha;have h:=run_convert_bytes_back (P:=prog) w 60 9 5 a c (bs.map UInt8.ofNat) underlying60 underlying5 underlying9 (fun j hj=>by
   have hj':j<bs.length:=by simpa using hj
   have hlt:=hbs bs[j] (List.getElem_mem hj');rw[ha j hj',List.getElem_map,UInt8.toNat_ofNat_of_lt' hlt])
  rw[List.length_map]at h;exact h
 rcases bs with _ | ⟨b,bs⟩
 ·rcases A with _ | a
  ·exact run_convert_bytes_nil w 60 5 underlying60 underlying5 0 c 9 underlying9
  ·exact key a (fun j hj=>absurd hj (by simp))
 ·obtain⟨g,off,rfl,hc⟩:=gu hr (by simp);refine key _ (fun j hj=>?_);have e:((⟨g,off,none⟩:Addr).add j)=⟨g,off+j,none⟩:=by unfold Addr.add;split<;>simp_all
  rw[e];exact hc j hj
theorem vL(bs:List Nat)(i:Nat)(W:World)(hi:i<bs.length)(hlt:bs[i]<256):(Instr.index 9 (.string (strOf bs)) (.int .i64 (i:Int))).run prog W=.ok (.int .u8 ((bs[i]:Nat):Int)) W:=by
 have hs:=aA bs;rw[run_index_string W 9 (strOf bs) .i64 (i:Int) underlying9,dif_pos ⟨by omega,by omega⟩];have e:(strOf bs)[i]'(by omega)=UInt8.ofNat bs[i]:=by
  rw[ByteArray.getElem_eq_getElem_data];simp[strOf]
 simp only[Int.toNat_natCast,e];rw[UInt8.toNat_ofNat_of_lt' hlt]
theorem Am{w:World}{base g:Nat}{l:List Nat}(h:Row w g 5 (u8s l))(hb:base<=g)(hm:l.length<=1000000000):w.ownsRow base 5 1 (.slice (some ⟨g,0,none⟩) l.length l.length) l.length (u8s l):=
 ⟨by rw[aO,Nat.mul_one],.inr ⟨g,l.length,(u8s l).toArray,rfl,hb,h,Nat.le_refl _,by unfold maxLen;omega,by simp[aO],by rw[List.take_of_length_le (by simp[aO])]⟩⟩
theorem FM(a b:List Nat):strOf a++strOf b=strOf (a++b):=by
 simp[strOf,ByteArray.mk_append_mk]
theorem lK(l:List Nat)(i j:Nat):(strOf l).extract i j=strOf ((l.take j).drop i):=by
 apply ByteArray.ext
 simp only[strOf,ByteArray.data_extract,List.extract_toArray,List.extract_eq_take_drop,List.map_drop,List.map_take];rw[List.drop_take]
theorem PW(l:List Nat)(j:Nat):(strOf l).extract 0 j=strOf (l.take j):=by rw[lK,List.drop_zero]
theorem PV(l:List Nat)(i:Nat):(strOf l).extract i l.length=strOf (l.drop i):=by rw[lK,List.take_length]
theorem nG(a:List Nat):(strOf a).toList=a.map UInt8.ofNat:=by simp[strOf]
theorem LD:∀(a b:List Nat),(∀x∈a,x<256)->(∀x∈b,x<256)->a.map UInt8.ofNat=b.map UInt8.ofNat->a=b
 | [],[],_,_,_=>rfl
 | [],_ :: _,_,_,h=>by simp at h
 | _ :: _,[],_,_,h=>by simp at h
 | x :: a,y :: b,ha,hb,h=>by
  simp only[List.map_cons,List.cons.injEq]at h;have hx:=ha x List.mem_cons_self;have hy:=hb y List.mem_cons_self;have e:=congrArg UInt8.toNat h.1;rw[UInt8.toNat_ofNat_of_lt' hx,UInt8.toNat_ofNat_of_lt' hy]at e;rw[e,LD a b (fun z hz=>ha z (List.mem_cons_of_mem _ hz)) (fun z hz=>hb z (List.mem_cons_of_mem _ hz)) h.2]
theorem FN(a b:List Nat)(ha:∀x∈a,x<256)(hb:∀x∈b,x<256):((strOf a).toList == (strOf b).toList)=decide (a=b):=by
 rw[nG,nG];by_cases h:a=b
 ·subst h;simp
 ·rw[decide_eq_false h];simp only[beq_eq_false_iff_ne,ne_eq];exact fun e=>h (LD a b ha hb e)
def Bv(s:ByteArray):List Nat:=s.data.toList.map UInt8.toNat
theorem abC(s:ByteArray):strOf (Bv s)=s:=by
 apply ByteArray.ext
 have e:(UInt8.ofNat ∘ UInt8.toNat)=id:=funext fun u=>UInt8.ofNat_toNat
 simp[strOf,Bv,e]
theorem in_lt(s:ByteArray):∀x∈Bv s,x<256:=by
 intro x hx;obtain⟨u,_,rfl⟩:=List.mem_map.1 hx;exact u.toNat_lt
theorem of_string(s:ByteArray):∃l,s=strOf l/\∀x∈l,x<256:=⟨Bv s,(abC s).symm,in_lt s⟩
theorem iN{l:List Nat}(h:∀x∈l,x<256)(k:Nat):∀x∈l.take k,x<256:=fun x hx=>h x (List.mem_of_mem_take hx)
theorem dG{l:List Nat}(h:∀x∈l,x<256)(k:Nat):∀x∈l.drop k,x<256:=fun x hx=>h x (List.mem_of_mem_drop hx)
theorem mR{a b:List Nat}(ha:∀x∈a,x<256)(hb:∀x∈b,x<256):∀x∈a++b,x<256:=fun x hx=>(List.mem_append.1 hx).elim (ha x) (hb x)
theorem WG(a b:List Nat)(h:a.length+b.length<=1000000000)(W:World):(Op.stringOp .add (strOf a) (strOf b)).run prog W=.ok (.string (strOf (a++b))) W:=by
 rw[run_string_add_sum W _ _ (by rw[aA,aA];omega),FM]
theorem uU(l:List Nat)(j:Nat)(h:j<=l.length)(W:World):(Instr.slice 9 (.string (strOf l)) none (some (.int .i64 (j:Int))) none).run prog W=.ok (.string (strOf (l.take j))) W:=by
 rw[run_slice_string_to_if W 9 _ .i64 j underlying9,if_pos ⟨by omega,by rw[aA];omega⟩,Int.toNat_natCast,PW]
theorem nZ(l:List Nat)(i:Nat)(h:i<=l.length)(W:World):(Instr.slice 9 (.string (strOf l)) (some (.int .i64 (i:Int))) none none).run prog W=.ok (.string (strOf (l.drop i))) W:=by
 rw[run_slice_string_from_if W 9 _ .i64 i underlying9,if_pos ⟨by omega,by rw[aA];omega⟩,Int.toNat_natCast,aA,PV]
theorem Nj:∀x:Nat,x<2^64->Lib.bitLen x=Bm.wid x:=by
 intro x;induction x using Nat.strongRecOn with
 | ind x ih=>
  intro hx;rcases Nat.eq_zero_or_pos x with h | h
  ·subst h;rfl
  ·rw[Lib.bitLen_half x (by omega) hx,ih (x/2) (by omega) (by omega)];rcases Nat.eq_zero_or_pos (x/2)with h1 | h1
   ·rw[h1,show x=1 by omega,Bd 1 0 (by simp) (by simp)];rfl
   ·have h2:=Qs (x/2) h1 (x%2) (by omega);rw[show 2*(x/2)+x%2=x by omega]at h2;omega
namespace Bm
def aal(h b:Nat):Nat:=(h ^^^ b)*11400714819323198485%18446744073709551616
def CS(h b:Nat):Nat:=aal h b ^^^ aal h b/536870912
def aam(h n:Nat):Nat:=(h+n)%18446744073709551616*13787848793156543929%18446744073709551616
def ahs(h n:Nat):Nat:=aam h n ^^^ aam h n/4294967296
def H0:Nat:=7640891576956012808
def ku(h:Nat)(l:List Nat):Nat:=l.foldl CS h
theorem ajU{a b:Nat}(ha:a<18446744073709551616)(hb:b<18446744073709551616):a ^^^ b<18446744073709551616:=Nat.xor_lt_two_pow (n:=64) (by omega) (by omega)
theorem Jf(h b:Nat):aal h b<18446744073709551616:=Nat.mod_lt _ (by decide)
theorem abz(h b:Nat):CS h b<18446744073709551616:=ajU (Jf h b) (Nat.lt_of_le_of_lt (Nat.div_le_self _ _) (Jf h b))
theorem Jg(h n:Nat):aam h n<18446744073709551616:=Nat.mod_lt _ (by decide)
theorem agA(h n:Nat):ahs h n<18446744073709551616:=ajU (Jg h n) (Nat.lt_of_le_of_lt (Nat.div_le_self _ _) (Jg h n))
theorem Zi(h:Nat)(l:List Nat)(hh:h<18446744073709551616):ku h l<18446744073709551616:=by
 induction l generalizing h with
 | nil=>exact hh
 | cons b l ih=>exact ih _ (abz h b)
theorem NP(h:Nat)(l:List Nat)(b:Nat):ku h (l++[b])=CS (ku h l) b:=by
 unfold ku;rw[List.foldl_append,List.foldl_cons,List.foldl_nil]
theorem zT(h:Nat)(l:List Nat)(k:Nat)(hk:k<l.length):ku h (l.take (k+1))=CS (ku h (l.take k)) l[k]:=by
 rw[List.take_succ_eq_append_getElem hk,NP]
def sumOf(l:List Nat):Nat:=ahs (ku H0 l) l.length
theorem MH(l:List Nat):sumOf l<18446744073709551616:=agA _ _
end Bm
theorem ajM(h b:Nat)(hh:h<18446744073709551616)(hb:b<256):IntKind.u64.wrap (bits .xor .u64 (h:Int) (b:Int)*11400714819323198485)=(aal h b:Int):=by
 rw[u64_xor_nat h b hh (by omega),IntKind.wrap_u64];unfold aal;omega
theorem ajN(h b:Nat):bits .xor .u64 (aal h b:Int) ((aal h b:Int)/536870912)=(CS h b:Int):=xorShift_u64 (aal h b) 536870912 (Jf h b)
theorem amj(h n:Nat):IntKind.u64.wrap (IntKind.u64.wrap ((h:Int)+(n:Int))*13787848793156543929)=(aam h n:Int):=by
 rw[IntKind.wrap_u64,IntKind.wrap_u64];unfold aam;omega
theorem amk(h n:Nat):bits .xor .u64 (aam h n:Int) ((aam h n:Int)/4294967296)=(ahs h n:Int):=xorShift_u64 (aam h n) 4294967296 (Jg h n)
def fx(n:Int):Nat:=(min (max n 0) 8).toNat
theorem aiz(n:Int):fx n<=8:=by unfold fx;omega
abbrev Left:=Option (List Nat)
def gZ(n:Nat):Left->List Nat×Left
 | some bs=>if n<=bs.length then(bs.take n,some (bs.drop n))else([],none)
 | none=>([],none)
def fB:Left->Nat×Left
 | some bs=>if 0<(au bs).2 then((au bs).1,some (bs.drop (au bs).2))else(0,none)
 | none=>(0,none)
def zm(most:Int)(st:Left):Nat×Left:=
 if (fB st).2=none\/most<0\/most<((fB st).1:Int)then(0,none)else fB st
def yD(most:Int)(st:Left):List Nat×Left:=gZ (zm most st).1 (zm most st).2
def OkL:Left->Prop
 | some bs=>(∀x∈bs,x<256)/\bs.length<=100000000
 | none=>True
theorem adj{n:Nat}{st:Left}(h:OkL st):OkL (gZ n st).2/\(∀x∈(gZ n st).1,x<256)/\(gZ n st).1.length<=n:=by
 rcases st with _ | bs
 ·exact⟨trivial,by simp[gZ],by simp[gZ]⟩
 ·simp only[gZ];split
  ·exact⟨⟨dG h.1 _,by have:=h.2;simp;omega⟩,iN h.1 _,by simp;omega⟩
  ·exact⟨trivial,by simp,by simp⟩
theorem LV{st:Left}(h:OkL st):OkL (fB st).2/\(fB st).1<2^64:=by
 rcases st with _ | bs
 ·exact⟨trivial,by simp[fB]⟩
 ·simp only[fB];split
  ·rename_i hp
   exact⟨⟨dG h.1 _,by have:=h.2;simp;omega⟩,(gK bs _ _ hp rfl).1⟩
  ·exact⟨trivial,by omega⟩
theorem ok_int{most:Int}{st:Left}(h:OkL st)(hm:most<=9223372036854775807):OkL (zm most st).2/\((zm most st).1:Int)<=9223372036854775807:=by
 unfold zm;split
 ·exact⟨trivial,by simp⟩
 ·rename_i hn
  exact⟨(LV h).1,by omega⟩
def PC(w:World):Option Addr->List (List Nat)->Prop
 | p,[]=>p=none
 | p,t :: ts=>∃g q,p=some ⟨g,0,none⟩/\Row w g 106 [.pointer q,.string (strOf t)]/\t≠[]/\PC w q ts
theorem PC.keep{w w':World}(hk:∀g cs,Row w g 106 cs->Row w' g 106 cs):∀(ts:List (List Nat)) (p:Option Addr),PC w p ts->PC w' p ts
 | [],_,h=>h
 | _ :: ts,_,⟨g,q,hp,hr,hn,hc⟩=>⟨g,q,hp,hk _ _ hr,hn,PC.keep hk ts q hc⟩
theorem uS{w w':World}{row:Option Nat}(hg:w.grownBy w' row)(hr:∀g,row=some g->yR w g 106):∀g cs,Row w g 106 cs->Row w' g 106 cs:=
 fun g _ h=>h.keep (hg.block g h.lt (fun e=>(hr g e.symm).ne h rfl))
def CW(w:World)(b:Nat)(bs:List Nat):Prop:=∃(p:Option Addr) (ts:List (List Nat)),
 Row w b 72 [.pointer p,.int .i64 (bs.length:Int)]/\PC w p ts/\bs=ts.reverse.flatten
theorem CW.keep{w w':World}{b:Nat}{bs:List Nat}{row:Option Nat}(h:CW w b bs)(hg:w.grownBy w' row)(hb:row≠some b)(hr:∀g,row=some g->yR w g 106):CW w' b bs:=by
 obtain⟨p,ts,h0,hc,e⟩:=h;exact⟨p,ts,h0.keep (hg.block b h0.lt (fun e=>hb e.symm)),hc.keep (uS hg hr),e⟩
theorem CW.below{w w':World}{b:Nat}{bs:List Nat}(h:CW w b bs)(hg:Below w.heap.size w w'):CW w' b bs:=h.keep (row:=none) (ak hg none) (by simp) (by simp)
theorem CW.new(w:World):CW (w.alloc (.cells #[.pointer none,.int .i64 0] 72)) w.heap.size []:=⟨none,[],Row.new w _ [.pointer none,.int .i64 0],rfl,rfl⟩
def kK:Left->List Value
 | some bs=>[.string (strOf bs),.bool false]
 | none=>[.string (strOf []),.bool true]
def CR(w:World)(b:Nat)(st:Left):Prop:=Row w b 82 (kK st)
theorem CR.keep{w w':World}{b:Nat}{st:Left}{row:Option Nat}(h:CR w b st)(hg:w.grownBy w' row)(hb:row≠some b):CR w' b st:=Row.keep h (hg.block b (Row.lt h) (fun e=>hb e.symm))
theorem CR.below{w w':World}{b:Nat}{st:Left}(h:CR w b st)(hg:Below w.heap.size w w'):CR w' b st:=h.keep (row:=none) (ak hg none) (by simp)
theorem CR.lt{w:World}{b:Nat}{st:Left}(h:CR w b st):b<w.heap.size:=Row.lt h
theorem zI(n:Int)(w:World)(h0:-9223372036854775808<=n)(h1:n<=9223372036854775807) :
  Calls prog 59 #[.int .i64 n] w fun e w'=>e=.returned (.int .i64 (fx n:Int))/\w=w':=by
 have hf:min (max n 0) 8=(fx n:Int):=by unfold fx;omega
 have Hf:=hid hf;clear hf;go_enter func59,ntmps59
 go_wp2;go_ret;exact⟨congrArg Ending.returned (congrArg (Value.int .i64) Hf.out),rfl⟩
def sM(c i:Nat):Bool:=decide ((i=9/\c=1)\/(i≠9/\(c≠0\/i=0)))
theorem Sm(c i:Nat)(w:World)(hc:c<256)(hi:i<=9) :
  Calls prog 103 #[.int .u8 (c:Int),.int .i64 (i:Int)] w fun e w'=>e=.returned (.bool (sM c i))/\w=w':=by
 by_cases h9:i=9
 ·subst h9;by_cases h1:c=1
  ·subst h1;have he:sM 1 9=true:=by decide
   rw[he];go_enter func103,ntmps103
   go_wp2;go_ret;exact⟨rfl,rfl⟩
  ·have he:sM c 9=false:=by unfold sM;simp;omega
   have hb:((c:Int) == 1)=false:=by simp;omega
   rw[he];clear h1 he;go_enter func103,ntmps103
   go_wp2;go_ret;exact⟨rfl,rfl⟩
 ·have h9b:((i:Int) == 9)=false:=by simp;omega
  by_cases h0:c=0
  ·subst h0;by_cases hz:i=0
   ·subst hz;have he:sM 0 0=true:=by decide
    rw[he];clear h9b;go_enter func103,ntmps103
    go_wp2;go_ret;exact⟨rfl,rfl⟩
   ·have he:sM 0 i=false:=by unfold sM;simp;omega
    have hb:((i:Int) == 0)=false:=by simp;omega
    rw[he];clear he hz h9;go_enter func103,ntmps103
    go_wp2;go_ret;exact⟨rfl,rfl⟩
  ·have he:sM c i=true:=by unfold sM;simp;omega
   have hb:((c:Int) != 0)=true:=by simp;omega
   rw[he];clear he h0 h9;go_enter func103,ntmps103
   go_wp2;go_ret;exact⟨rfl,rfl⟩
theorem CR.cells{w:World}{b:Nat}{st:Left}(h:CR w b st):w.cell? ⟨b,0,none⟩=some (.string (strOf (st.getD [])))/\w.cell? ⟨b,1,none⟩=some (.bool st.isNone)/\w.frozen? ⟨b,0,none⟩=false/\w.frozen? ⟨b,1,none⟩=false:=by
 refine⟨(Row.cell h 0).trans ?_,(Row.cell h 1).trans ?_,Row.free h 0,Row.free h 1⟩
 all_goals rcases st with _ | bs<;>rfl
theorem CR.left{w:World}{b:Nat}{st:Left}(h:CR w b st)(l:List Nat):Row (w.setCell ⟨b,0,none⟩ (.string (strOf l))) b 82 [.string (strOf l),.bool st.isNone]:=by
 have h1:=Row.aT h 0 (.string (strOf l));have e:(kK st).set 0 (.string (strOf l))=[.string (strOf l),.bool st.isNone]:=by rcases st with _ | bs<;>rfl
 rw[e]at h1;exact h1
theorem Row.bad{w:World}{b:Nat}{x:Value}(h:Row w b 82 [.string (strOf []),x]):CR (w.setCell ⟨b,1,none⟩ (.bool true)) b none:=h.aT 1 (.bool true)
theorem CR.step{w:World}{b:Nat}{bs:List Nat}(h:CR w b (some bs))(l:List Nat):CR (w.setCell ⟨b,0,none⟩ (.string (strOf l))) b (some l):=h.left l
theorem aK(b:Nat)(st:Left)(w:World)(h:CR w b st):Calls prog 41 #[.pointer (some ⟨b,0,none⟩)] w fun e w'=>e=.returned (.bool st.isNone)/\w=w':=by
 obtain⟨c0,c1,f0,f1⟩:=h.cells;clear h c0 f0 f1;generalize st.isNone=bad at c1 ⊢;go_enter func41,ntmps41
 go_wp2;go_ret;exact⟨rfl,rfl⟩
theorem ru(b:Nat)(st:Left)(w:World)(h:CR w b st):Calls prog 74 #[.pointer (some ⟨b,0,none⟩)] w fun e w'=>e=.returned (.tuple #[])/\CR w' b none/\w.grownBy w' (some b):=by
 obtain⟨c0,c1,f0,f1⟩:=h.cells;have H:=hid h;clear h;go_enter func74,ntmps74
 go_wp2;go_end0
 refine⟨rfl,?_,aB (aB (aj _ _) _ _) _ _⟩;exact(H.out.left []).bad
theorem YK(l:List Nat)(w:World):Calls prog 16 #[.string (strOf l)] w fun e w'=>e=.returned (.pointer (some ⟨w.heap.size,0,none⟩))/\CR w' w.heap.size (some l)/\Below w.heap.size w w':=by
 generalize hs:strOf l=s;have Hs:=hid hs;clear hs;go_enter func16,ntmps16
 go_wp2;go_ret;refine⟨rfl,?_,(Below.refl _ _).alloc (Nat.le_refl _) _⟩;rw[<-Hs.out];exact Row.new w 82 [.string (strOf l),.bool false]
theorem Ei(bs:List Nat):(strOf bs).toList.isEmpty=decide (bs=[]):=by
 rw[nG];rcases bs with _ | ⟨x,bs⟩
 ·rfl
 ·rw[decide_eq_false (by simp)];rfl
theorem VE(b:Nat)(st:Left)(w:World)(h:CR w b st):Calls prog 19 #[.pointer (some ⟨b,0,none⟩)] w fun e w'=>e=.returned (.bool (decide (st=some [])))/\w=w':=by
 have Hb:=hid (aK b st w h);obtain⟨c0,c1,f0,f1⟩:=h.cells;clear h c1 f0 f1;rcases st with _ | bs
 ·rw[decide_eq_false (by simp)];go_enter func19,ntmps19
  go_wp2_with fail
  refine Hb.out.mono ?_;rintro e w' ⟨rfl,rfl⟩;go_wp2;go_ret;exact⟨rfl,rfl⟩
 ·have he:=Ei bs;have Hd:Hid (decide (some bs=some ([]:List Nat))=decide (bs=[])):=by unfold Hid;simp
  rw[Hd.out];rw[Option.getD_some]at c0;generalize strOf bs=s at c0 he;generalize decide (bs=[])=d at he ⊢;go_enter func19,ntmps19
  go_wp2_with fail
  refine Hb.out.mono ?_;rintro e w' ⟨rfl,rfl⟩;go_wp2;go_ret;exact⟨rfl,rfl⟩
theorem abg(b:Nat)(n:Int)(w:World)(h:CR w b none):Calls prog 42 #[.pointer (some ⟨b,0,none⟩),.int .i64 n] w fun e w'=>e=.returned (.string (strOf []))/\w=w':=by
 have Hb:=hid (aK b none w h);clear h;go_enter func42,ntmps42
 go_wp2_with fail
 refine Hb.out.mono ?_;rintro e w' ⟨rfl,rfl⟩;go_wp2;go_ret;exact⟨rfl,rfl⟩
theorem CR.drew{w:World}{b:Nat}{st:Left}(h:CR w b st):CR w.drew b st:=h.keep (row:=none) (bf (aj _ _)) (by simp)
theorem VX(b m:Nat)(n:Int)(bs:List Nat)(w:World)(hm:max n 0=(m:Int))(hle:m<=bs.length)(h:CR w b (some bs)) :
  Calls prog 42 #[.pointer (some ⟨b,0,none⟩),.int .i64 n] w fun e w'=>e=.returned (.string (strOf (bs.take m)))/\CR w' b (some (bs.drop m))/\w.grownBy w' (some b):=by
 have Hb:=hid (aK b _ w h);obtain⟨c0,c1,f0,f1⟩:=h.cells;rw[Option.getD_some]at c0;have hsz:=aA bs;have hto:=uU bs m hle;have Tv:=nZ bs m hle;have hstep:=h.step (bs.drop m);have fC:=hid hstep;have hlt:(m:Int)<=(bs.length:Int):=by omega
 clear h hstep c1 f1;generalize strOf bs=s at c0 hsz hto Tv;generalize strOf (bs.take m)=s1 at hto ⊢;generalize strOf (bs.drop m)=s2 at Tv fC;go_enter func42,ntmps42
 go_wp2_with fail
 refine Hb.out.mono ?_;rintro e w' ⟨rfl,rfl⟩;go_wp2;go_ret;exact⟨rfl,fC.out,aB (aj _ _) _ _⟩
theorem VW(b m:Nat)(n:Int)(bs:List Nat)(w:World)(hm:max n 0=(m:Int))(hle:bs.length<m)(h:CR w b (some bs)) :
  Calls prog 42 #[.pointer (some ⟨b,0,none⟩),.int .i64 n] w fun e w'=>e=.returned (.string (strOf []))/\CR w' b none/\w.grownBy w' (some b):=by
 have Hb:=hid (aK b _ w h);have Hf:=hid (ru b _ w h);obtain⟨c0,c1,f0,f1⟩:=h.cells;rw[Option.getD_some]at c0;have hsz:=aA bs;have hlt:(bs.length:Int)<(m:Int):=by omega
 clear h c1 f1 f0;generalize strOf bs=s at c0 hsz;go_enter func42,ntmps42
 go_wp2_with fail
 refine Hb.out.mono ?_;rintro e w' ⟨rfl,rfl⟩;go_wp2_with fail
 refine Hf.out.mono ?_;rintro e w' ⟨rfl,hcr,hgr⟩;go_wp2;go_ret;exact⟨rfl,hcr,hgr⟩
theorem gD(b:Nat)(st:Left)(n:Int)(w:World)(h:CR w b st) :
  Calls prog 42 #[.pointer (some ⟨b,0,none⟩),.int .i64 n] w fun e w'=>e=.returned (.string (strOf (gZ n.toNat st).1))/\CR w' b (gZ n.toNat st).2/\w.grownBy w' (some b):=by
 rcases st with _ | bs
 ·exact(abg b n w h).mono fun e w' ⟨he,hw⟩=>by subst hw;exact⟨he,h,aj _ _⟩
 ·have hm:max n 0=(n.toNat:Int):=by omega
  simp only[gZ];split
  ·exact VX b _ n bs w hm (by assumption) h
  ·exact VW b _ n bs w hm (by omega) h
theorem Gt(c:Nat)(h:c<256):bits .andNot .u8 (c:Int) 128=((c%128:Nat):Int):=by
 have key:∀c,c<256->bits .andNot .u8 ((c:Nat):Int) 128=((c%128:Nat):Int):=by decide +kernel
 exact key c h
theorem afL(l:List Nat)(k:Nat)(hk:k<l.length)(h9:k<=9) :
  ∃V',bits .or .u64 ((jY (l.take k):Nat):Int) (IntKind.u64.wrap (((l[k]%128:Nat):Int)*2^(7*k)))=((V':Nat):Int)/\V'<2^64/\(k<=8\/l[k]=1->V'=jY (l.take (k+1))):=by
 have hlen:(l.take k).length=k:=by rw[List.length_take];omega
 have hv:=Kw (l.take k);rw[hlen]at hv;have hp:(128:Nat)^k=2^(7*k):=by rw[show(128:Nat)=2^7 by rfl,<-Nat.pow_mul]
 have h9p:(128:Nat)^k<=128^9:=Nat.pow_le_pow_right (by omega) h9;have h9e:(128:Nat)^9=2^63:=by decide
 have hv64:jY (l.take k)<2^64:=by omega
 refine⟨_,or_val _ (l[k]%128) (7*k) hv64,?_,?_⟩
 ·exact Nat.or_lt_two_pow hv64 (Nat.mod_lt _ (by decide))
 ·intro hc;have hsmall:l[k]%128*2^(7*k)<2^64:=by
   rw[<-hp];rcases hc with h | h
   ·have h8:(128:Nat)^k<=128^8:=Nat.pow_le_pow_right (by omega) h;have h8e:127*(128:Nat)^8<2^64:=by decide
    have:=Nat.mul_le_mul (show l[k]%128<=127 by omega) h8;omega
   ·rw[h,show 1%128=1 from rfl];omega
  rw[Nat.mod_eq_of_lt hsmall,xI (7*k) _ (l[k]%128) (by rw[<-hp];exact hv),Xt l k hk,<-hp]
theorem Pq(b:Nat)(w:World)(h:CR w b none):Calls prog 73 #[.pointer (some ⟨b,0,none⟩)] w fun e w'=>e=.returned (.int .u64 0)/\w=w':=by
 have Hb:=hid (aK b none w h);clear h;go_enter func73,ntmps73
 go_wp2_with fail
 refine Hb.out.mono ?_;rintro e w' ⟨rfl,rfl⟩;go_wp2;go_ret;exact⟨rfl,rfl⟩
theorem JI(b:Nat)(l:List Nat)(w:World)(hl:l.length<=100000000)(hlt:∀x∈l,x<256)(h:CR w b (some l)) :
  Calls prog 73 #[.pointer (some ⟨b,0,none⟩)] w fun e w'=>e=.returned (.int .u64 ((fB (some l)).1:Int))/\CR w' b (fB (some l)).2/\w.grownBy w' (some b):=by
 have Hb:=hid (aK b _ w h);have Hf:=hid (ru b _ w h);obtain⟨c0,c1,f0,f1⟩:=h.cells;rw[Option.getD_some]at c0;have hsz:=aA l;have hidx:∀(i:Nat) (W:World) (hi:i<l.length),(Instr.index 9 (.string (strOf l)) (.int .i64 (i:Int))).run prog W=.ok (.int .u8 ((l[i]:Nat):Int)) W:=fun i W hi=>vL l i W hi (hlt _ (List.getElem_mem hi))
 have Tv:=nZ l;have hle:=Uj l;obtain⟨n,hn⟩:∃n,n=l.length:=⟨_,rfl⟩;obtain⟨M,hM⟩:∃M,M=min n 10:=⟨_,rfl⟩;have hMi:min (n:Int) 10=(M:Int):=by omega
 obtain⟨f1',f2,hF⟩:∃f1 f2,fB (some l)=(f1,f2):=⟨_,_,rfl⟩;rw[hF];rw[<-hn]at hsz hl;have hMn:M<=n:=by omega
 have aqJ:M<=10:=by omega
 have HF:=hid hF;have Hn:=hid hn;have HM:=hid hM;have HMi:=hid hMi;have Dl:=hid hidx;have ahM:=hid Tv;have Hlt:=hid hlt;have Hle:=hid hle;have H:=hid h;clear hn hidx Tv hlt hF hle hM hMi h c1 f1;generalize strOf l=s at hsz Dl ahM c0;go_enter func73,ntmps73
 go_wp2_with fail
 refine Hb.out.mono ?_;rintro e w' ⟨rfl,rfl⟩;go_wp2;rw[HMi.out];go_loop [3,14] (fun v i=>∃k V:Nat,k<=M/\Hid (k<=Bm.lead l)/\i=.int .i64 (k:Int)/\v=.int .u64 (V:Int)/\Hid (k<=9->V=jY (l.take k))) (fun _ i=>M-(intOf i).toNat)
 case atStart=>exact⟨0,0,by omega,Nat.zero_le _,rfl,rfl,fun _=>rfl⟩
 case round=>
  obtain⟨k,V,hkM,hkl,rfl,rfl,hV⟩:=hrel;by_cases arj:k<M
  ·have hk1:k<l.length:=by rw[<-Hn.out];omega
   have hk9:k<=9:=by omega
   have hkn:k<n:=by omega
   obtain⟨V',hor,aqN,anp⟩:=afL l k hk1 hk9;have hVk:=hV.out hk9;rw[<-hVk]at hor;have hx:=fun W=>Dl.out k W hk1
   have hc8:=Hlt.out l[k] (List.getElem_mem hk1);have hand:=Gt l[k] hc8;have hup:=fun h=>afn l k hkl.out hk1 h
   have hat:=fun h=>afm l k hkl.out hk1 h
   have EB:=fun h=>SY l Hlt.out k hk1 hk9 h
   have aiE:k<=8\/l[k]=1->V'=jY (l.take (k+1)):=anp;have Hup:=hid hup;have Hat:=hid hat;have KC:=hid EB;have ahy:=hid aiE;have Hor:=hid hor;clear hup hat EB anp aiE hVk hor;generalize l[k]=c at hx hc8 hand Hup Hat KC ahy Hor;have KZ:=ahM.out (k+1) hk1;clear hk1;obtain⟨d,hd⟩:∃d,d=c%128:=⟨_,rfl⟩;rw[<-hd]at hand Hor;have hd7:d<=127:=by omega
   clear hd;by_cases h128:128<=c
   ·clear KZ;go_wp2;go_round
    case rel=>exact⟨k+1,V',by omega,Hup.out h128,by go_num,by first | rfl | rw[Hor.out],fun h9=>ahy.out (.inl (by omega))⟩
    case measure=>simp[intOf];omega
   ·have hlead:=Hat.out (by omega);have hfi:=KC.out hlead;have Oe:=fun W=>Sm c k W hc8 hk9
    have hgr:=HF.out;simp only[fB,hfi]at hgr;have HV:=hid ahy.out;by_cases he:(k=9/\c=1)\/(k≠9/\(c≠0\/k=0))
    ·have heb:sM c k=true:=by unfold sM;exact decide_eq_true he
     rw[heb]at Oe;rw[if_pos he]at hgr;simp only[if_pos (Nat.succ_pos k)]at hgr;have hVv:=HV.out (by omega);obtain⟨rfl,rfl⟩:V'=f1'/\some (l.drop (k+1))=f2:=by injection hgr with h1 h2;exact⟨by rw[hVv];exact h1,h2⟩
     have hstep:=H.out.step (l.drop (k+1));rw[show((k+1:Nat):Int)=(k:Int)+1 by omega]at KZ;have vX:=hid Oe;have fC:=hid hstep;clear hgr Oe hfi hlead heb he hVv HV hstep HF Hup Hat KC ahy;generalize strOf (l.drop (k+1))=s2 at KZ fC;go_wp2_with fail
     refine(vX.out _).mono ?_;rintro e w' ⟨rfl,rfl⟩;go_wp2;rw[Hor.out];go_ret;exact⟨rfl,fC.out,aB (aj _ _) _ _⟩
    ·have heb:sM c k=false:=by unfold sM;exact decide_eq_false he
     rw[heb]at Oe;rw[if_neg he]at hgr;simp only[Nat.lt_irrefl,if_false]at hgr;obtain⟨rfl,rfl⟩:0=f1'/\none=f2:=by injection hgr with h1 h2;exact⟨h1,h2⟩
     have vX:=hid Oe;clear hgr Oe hfi hlead heb he HV HF Hup Hat KC ahy KZ;go_wp2_with fail
     refine(vX.out _).mono ?_;rintro e w' ⟨rfl,rfl⟩;go_wp2_with fail
     refine Hf.out.mono ?_;rintro e w' ⟨rfl,hcr,hgr⟩;go_wp2;go_ret;exact⟨rfl,hcr,hgr⟩
  ·have hgr:=HF.out;have hlong:au l=(0,0):=by
    refine Ii l ?_;have h1:=hkl.out;have h2:=Hle.out;have h3:=Hn.out;have h4:=HM.out;omega
   simp only[fB,hlong,Nat.lt_irrefl,if_false]at hgr;obtain⟨rfl,rfl⟩:0=f1'/\none=f2:=by injection hgr with h1 h2;exact⟨h1,h2⟩
   obtain rfl:k=M:=by omega
   clear hgr hlong HF;go_wp2_with fail
   refine Hf.out.mono ?_;rintro e w' ⟨rfl,hcr,hgr⟩;go_wp2;go_ret;exact⟨rfl,hcr,hgr⟩
theorem Pp(b:Nat)(st:Left)(w:World)(hok:OkL st)(h:CR w b st) :
  Calls prog 73 #[.pointer (some ⟨b,0,none⟩)] w fun e w'=>e=.returned (.int .u64 ((fB st).1:Int))/\CR w' b (fB st).2/\w.grownBy w' (some b):=by
 rcases st with _ | l
 ·exact(Pq b w h).mono fun e w' ⟨he,hw⟩=>by subst hw;exact⟨he,h,aj _ _⟩
 ·exact JI b l w hok.2 hok.1 h
theorem Qu(a:Addr)(w:World):Calls prog 33 #[.pointer (some a),.string (strOf [])] w fun e w'=>e=.returned (.pointer (some a))/\w=w':=by
 have he:(strOf []).toList.isEmpty=true:=by rw[Ei];rfl
 generalize strOf []=s at he ⊢;go_enter func33,ntmps33
 go_wp2;go_ret;exact⟨rfl,rfl⟩
def more(w:World)(b:Nat)(p:Option Addr)(n:Int)(s:ByteArray):World:=
 ((w.setCell ⟨b,0,none⟩ (.pointer (some ⟨w.heap.size,0,none⟩))).setCell ⟨b,1,none⟩ (.int .i64 n)).alloc (.cells #[.pointer p,.string s] 106)
theorem aes{w:World}{b:Nat}{p:Option Addr}{ts:List (List Nat)}{n:Int}(s:List Nat)(hs:s≠[])(h0:Row w b 72 [.pointer p,.int .i64 n])(hc:PC w p ts) :
  CW (more w b p ((ts.reverse.flatten.length:Int)+(s.length:Int)) (strOf s)) b (ts.reverse.flatten++s)/\w.grownBy (more w b p ((ts.reverse.flatten.length:Int)+(s.length:Int)) (strOf s)) (some b):=by
 have hb:=h0.lt;have hg:w.grownBy (more w b p ((ts.reverse.flatten.length:Int)+(s.length:Int)) (strOf s)) (some b):=
  aF (aB (aB (aj _ _) _ _) _ _) _
 refine⟨⟨some ⟨w.heap.size,0,none⟩,s :: ts,?_,⟨w.heap.size,p,rfl,?_,hs,hc.keep (uS hg (fun g e=>?_))⟩,by simp⟩,hg⟩
 ·have h1:=((h0.aT 0 (.pointer (some ⟨w.heap.size,0,none⟩))).aT 1 (.int .i64 ((ts.reverse.flatten.length:Int)+(s.length:Int)))).alloc (.cells #[.pointer p,.string (strOf s)] 106);rw[List.length_append,Int.natCast_add];exact h1
 ·have h1:=Row.new ((w.setCell ⟨b,0,none⟩ (.pointer (some ⟨w.heap.size,0,none⟩))).setCell ⟨b,1,none⟩ (.int .i64 ((ts.reverse.flatten.length:Int)+(s.length:Int)))) 106 [.pointer p,.string (strOf s)];simpa [more]using h1
 ·injection e with e
  subst e;exact h0.UG (by decide)
theorem Xz(b:Nat)(bs s:List Nat)(w:World)(hs:s≠[])(hl:bs.length+s.length<=1000000000)(h:CW w b bs) :
  Calls prog 33 #[.pointer (some ⟨b,0,none⟩),.string (strOf s)] w fun e w'=>e=.returned (.pointer (some ⟨b,0,none⟩))/\CW w' b (bs++s)/\w.grownBy w' (some b):=by
 obtain⟨p,ts,h0,hc,e⟩:=h;have hend:=aes s hs h0 hc;have c0:=h0.cell 0;have c1:=h0.cell 1;have f0:=h0.free 0;have f1:=h0.free 1;have hbl:=h0.lt;simp only[List.getElem?_cons_zero,List.getElem?_cons_succ]at c0 c1;rw[<-e]at hend;have he:(strOf s).toList.isEmpty=false:=by rw[Ei];simp[hs]
 have hsz:=aA s;have dR:=hid hend;clear hend h0 hc e hs;generalize strOf s=str at he hsz dR ⊢;go_enter func33,ntmps33
 go_wp2;go_ret;exact⟨rfl,dR.out.1,dR.out.2⟩
theorem iq(b:Nat)(bs s:List Nat)(w:World)(hl:bs.length+s.length<=1000000000)(h:CW w b bs) :
  Calls prog 33 #[.pointer (some ⟨b,0,none⟩),.string (strOf s)] w fun e w'=>e=.returned (.pointer (some ⟨b,0,none⟩))/\CW w' b (bs++s)/\w.grownBy w' (some b):=by
 by_cases hs:s=[]
 ·subst hs;exact(Qu _ w).mono fun e w' ⟨he,hw⟩=>by subst hw;exact⟨he,by rw[List.append_nil];exact h,aj _ _⟩
 ·exact Xz b bs s w hs hl h
theorem Ze(v m:Nat)(h:m<=8):(fA (List.replicate 8 0) 0 8 v).take m=Bm.bytesOf v m:=by
 have e:fA (List.replicate 8 0) 0 8 v=Bm.bytesOf v 8:=by simp[fA]
 rw[e,Bm.bytesOf_take _ _ _ h]
theorem VR{w:World}{g k v:Nat}{cs:List Nat}{t:TypeId}(hl:k<cs.length)(h:Row w g t (u8s (fA cs 0 k v))) :
  Row (w.setCell ⟨g,k,none⟩ (.int .u8 ((v/256^k%256:Nat):Int))) g t (u8s (fA cs 0 (k+1) v)):=by
 have h1:=h.aT k (.int .u8 ((v/256^k%256:Nat):Int));have h2:=zP cs 0 k v (by omega);rw[Nat.zero_add]at h2;rw[yK,h2]at h1;exact h1
theorem KN{w:World}{g m c:Nat}{t:TypeId}{cs:List Nat}(h:Row w g t (u8s cs))(hm:m<=cs.length)(hlt:∀x∈cs,x<256) :
  (convert 60 9 (.slice (some ⟨g,0,none⟩) m c)).run prog w=.ok (.string (strOf (cs.take m))) w:=by
 have h1:=bS w (some ⟨g,0,none⟩) c (cs.take m) (iN hlt m) (fun _=>⟨g,0,rfl,fun j hj=>by
  have hj':j<m:=by simp[u8s]at hj;omega
  rw[Nat.zero_add,h.cell j];simp[u8s,hj']⟩)
 rw[List.length_take,Nat.min_eq_left hm]at h1;exact h1
theorem abv(g m:Nat)(W:World)(h:m<=8):(Instr.sliceAt 104 (.pointer (some ⟨g,0,none⟩)) none (some (.int .i64 (m:Int))) none).run prog W=.ok (.slice (some ⟨g,0,none⟩) m 8) W:=by
 have hl:prog.arrayLen 104=8:=by kernel_rfl
 have he:prog.elem 104=5:=by kernel_rfl
 rw[run_sliceAt_array_h W 104 ⟨g,0,none⟩ (by kernel_rfl) .i64 m (by omega) (by rw[hl];omega),hl,he];go_simp
theorem ay{w w1 w2:World}{row:Option Nat}(h:w.grownBy w1 row)(h2:w1.grownBy w2 row):w.grownBy w2 row:=
 ⟨h2.os.trans h.os,h2.tape.trans h.tape,h2.output.trans h.output,Nat.le_trans h.size h2.size,fun i hi hn=>(h2.block i (Nat.lt_of_lt_of_le hi h.size) hn).trans (h.block i hi hn)⟩
theorem oz(b v:Nat)(n:Int)(bs:List Nat)(w:World)(hn0:-9223372036854775808<=n)(hn1:n<=9223372036854775807)(hv:v<2^64)(hl:bs.length<=100000000)(h:CW w b bs) :
  Calls prog 31 #[.pointer (some ⟨b,0,none⟩),.int .u64 (v:Int),.int .i64 n] w fun e w'=>e=.returned (.pointer (some ⟨b,0,none⟩))/\CW w' b (bs++Bm.bytesOf v (fx n))/\w.grownBy w' (some b):=by
 have hfx:=aiz n;have Hf:=hid (fun w=>zI n w hn0 hn1);have Hcw:=hid h;have Hl:=hid hl;have hg:Row (w.alloc (.cells (u8s (List.replicate 8 0)).toArray 104)) w.heap.size 104 (u8s (List.replicate 8 0)):=Row.new w _ _;have Hg:=hid hg;have h64:v<=18446744073709551615:=by omega
 clear h hl hg hv;generalize fx n=m at hfx Hf ⊢;go_enter func31,ntmps31
 go_wp2;go_loopw [9] (fun i wr=>∃k:Nat,k<=8/\i=.int .i64 (k:Int)/\Hid (Row wr w.heap.size 104 (u8s (fA (List.replicate 8 0) 0 k v)))/\Hid (Below w.heap.size w wr)) (fun i _=>8-(intOf i).toNat)
 case atStart=>exact⟨0,by omega,rfl,Hg.out,(Below.refl _ _).alloc (Nat.le_refl _) _⟩
 case round=>
  obtain⟨k,hk,rfl,hrow,hbel⟩:=hrel;have hlen:(fA (List.replicate 8 0) 0 k v).length=8:=by rw[uK _ _ _ _ (by simp;omega)];simp
  by_cases hlt:k<8
  ·have hcell:=hrow.out.cell k;have hfree:=hrow.out.free k;rw[bD _ _ (by omega)]at hcell;generalize (fA (List.replicate 8 0) 0 k v)[k]=old at hcell;clear hlen;go_wp2;rw[KI];go_roundw
   case rel=>exact⟨k+1,by omega,by go_num,VR (by simp;omega) hrow.out,hbel.out.setCell (Nat.le_refl _) _⟩
   case measure=>simp[intOf];omega
  ·obtain rfl:k=8:=by omega
   have dB:=KN (m:=m) (c:=8) hrow.out (by omega) (fun x hx=>by
    simp[fA]at hx;exact eH _ _ x hx)
   rw[Ze _ _ hfx]at dB;have hcw:=Hcw.out.below hbel.out;have Oj:bs.length+(Bm.bytesOf v m).length<=1000000000:=by rw[Bm.bytesOf_length];have:=Hl.out;omega
   have fT:=hid (iq b bs _ wr Oj hcw);have hsl:=abv w.heap.size m wr hfx;have Hgr:=hid (ak hbel.out (some b));clear hlen Oj hcw hlt;generalize strOf (Bm.bytesOf v m)=str at dB fT;go_wp2_with fail
   refine(Hf.out _).mono ?_;rintro e w' ⟨rfl,rfl⟩;go_wp2_with fail
   refine fT.out.mono ?_;rintro e w' ⟨rfl,apY,aqd⟩;go_wp2;go_ret;exact⟨rfl,apY,ay Hgr.out aqd⟩
theorem bU(w:World)(l:List Nat)(hlt:∀x∈l,x<256):∃w2 cap,(convert 9 60 (.string (strOf l))).run prog w=.ok (.slice (some ⟨w.heap.size,0,none⟩) l.length cap) w2 /\
  (∀j (h:j<l.length),w2.cell? ⟨w.heap.size,j,none⟩=some (.int .u8 (l[j]:Int)))/\Below w.heap.size w w2:=by
 have h:=run_bytes_of_string (P:=prog) w 9 60 5 (strOf l) underlying9 underlying60 underlying5;rw[aA]at h;refine⟨_,_,h,?_,?_⟩
 ·intro j hj;have hs:j<(strOf l).data.size:=by simp[strOf];exact hj
  have h1:=bytesRow_at (strOf l) (grownCap w l.length 0 5) j hs;have e:(strOf l).data[j]=UInt8.ofNat l[j]:=by simp[strOf]
  rw[e,UInt8.toNat_ofNat_of_lt' (hlt _ (List.getElem_mem hj))]at h1;rw[cell_of_row _ w.heap.size j _ _ _ (heap_alloc_new w.drew _)];exact h1
 ·exact(Below.refl _ _).drew.alloc (Nat.le_refl _) _
theorem nW(b:Nat)(st:Left)(most:Int)(w:World)(hm0:-9223372036854775808<=most)(hm1:most<=9223372036854775807)(hok:OkL st)(h:CR w b st) :
  Calls prog 40 #[.pointer (some ⟨b,0,none⟩),.int .i64 most] w fun e w'=>e=.returned (.int .i64 ((zm most st).1:Int))/\CR w' b (zm most st).2/\w.grownBy w' (some b):=by
 have Hg:=hid (Pp b st w hok h);have hok2:=LV hok;unfold zm;obtain⟨v,st',hgs⟩:∃v st',fB st=(v,st'):=⟨_,_,rfl⟩;rw[hgs]at Hg hok2 ⊢;have hv:=hok2.2;clear hok2 hgs h hok;rcases st' with _ | l
 ·rw[if_pos (.inl rfl)];go_enter func40,ntmps40
  go_wp2_with fail
  refine Hg.out.mono ?_;rintro e w1 ⟨rfl,hcr,hgr⟩;have Hb:=hid (aK b none w1 hcr);go_wp2_with fail
  refine Hb.out.mono ?_;rintro e w' ⟨rfl,rfl⟩;go_wp2;go_ret;exact⟨rfl,hcr,hgr⟩
 ·by_cases hneg:most<0
  ·rw[if_pos (.inr (.inl hneg))];go_enter func40,ntmps40
   go_wp2_with fail
   refine Hg.out.mono ?_;rintro e w1 ⟨rfl,hcr,hgr⟩;have Hb:=hid (aK b _ w1 hcr);have Hf:=hid (ru b _ w1 hcr);have Hgr:=hid hgr;clear hcr hgr;go_wp2_with fail
   refine Hb.out.mono ?_;rintro e w' ⟨rfl,rfl⟩;go_wp2_with fail
   refine Hf.out.mono ?_;rintro e w2 ⟨rfl,hcr,hgr⟩;go_wp2;go_ret;exact⟨rfl,hcr,ay Hgr.out hgr⟩
  ·obtain⟨m,rfl⟩:=Int.eq_ofNat_of_zero_le (show 0<=most by omega);by_cases hgt:m<v
   ·rw[if_pos (.inr (.inr (by show((m:Nat):Int)<((v:Nat):Int);omega)))];clear hv;go_enter func40,ntmps40
    go_wp2_with fail
    refine Hg.out.mono ?_;rintro e w1 ⟨rfl,hcr,hgr⟩;have Hb:=hid (aK b _ w1 hcr);have Hf:=hid (ru b _ w1 hcr);have Hgr:=hid hgr;clear hcr hgr;go_wp2_with fail
    refine Hb.out.mono ?_;rintro e w' ⟨rfl,rfl⟩;go_wp2_with fail
    refine Hf.out.mono ?_;rintro e w2 ⟨rfl,hcr,hgr⟩;go_wp2;go_ret;exact⟨rfl,hcr,ay Hgr.out hgr⟩
   ·rw[if_neg (by show ¬(some l=none\/((m:Nat):Int)<0\/((m:Nat):Int)<((v:Nat):Int));simp;omega)];have hvm:v<=m:=by omega
    clear hv hgt;go_enter func40,ntmps40
    go_wp2_with fail
    refine Hg.out.mono ?_;rintro e w1 ⟨rfl,hcr,hgr⟩;have Hb:=hid (aK b _ w1 hcr);have Hcr:=hid hcr;have Hgr:=hid hgr;clear hcr hgr;go_wp2_with fail
    refine Hb.out.mono ?_;rintro e w' ⟨rfl,rfl⟩;go_wp2;go_ret;exact⟨rfl,Hcr.out,Hgr.out⟩
theorem nC(b:Nat)(st:Left)(most:Int)(w:World)(hm0:-9223372036854775808<=most)(hm1:most<=9223372036854775807)(hok:OkL st)(h:CR w b st) :
  Calls prog 106 #[.pointer (some ⟨b,0,none⟩),.int .i64 most] w fun e w'=>e=.returned (.string (strOf (yD most st).1))/\CR w' b (yD most st).2/\w.grownBy w' (some b):=by
 have Hi:=hid (nW b st most w hm0 hm1 hok h);unfold yD;obtain⟨v,st',hgs⟩:∃v st',zm most st=(v,st'):=⟨_,_,rfl⟩;rw[hgs]at Hi ⊢;have hr:∀w1,CR w1 b st'->_:=fun w1 h1=>gD b st' (v:Int) w1 h1
 rw[Int.toNat_natCast]at hr;have Hr:=hid hr;clear hgs h hok hr hm0 hm1;go_enter func106,ntmps106
 go_wp2_with fail
 refine Hi.out.mono ?_;rintro e w1 ⟨rfl,hcr,hgr⟩;have Hgr:=hid hgr;have Hcr:=hid (Hr.out w1 hcr);clear hcr hgr;go_wp2_with fail
 refine Hcr.out.mono ?_;rintro e w2 ⟨rfl,hcr,hgr⟩;go_wp2;go_ret;exact⟨rfl,hcr,ay Hgr.out hgr⟩
theorem afJ(l:List Nat)(k:Nat)(hk:k<l.length)(h8:l.length<=8)(hlt:∀x∈l,x<256) :
  bits .or .u64 ((aW (l.take k):Nat):Int) (IntKind.u64.wrap ((l[k]:Int)*2^(8*k)))=((aW (l.take (k+1)):Nat):Int):=by
 have hlen:(l.take k).length=k:=by rw[List.length_take];omega
 have hv:=lQ (l.take k) (iN hlt k);rw[hlen,tH]at hv;have hb:=hlt l[k] (List.getElem_mem hk);have hp:(2:Nat)^(8*k)<=2^56:=Nat.pow_le_pow_right (by omega) (by omega);have h64:l[k]*2^(8*k)<2^64:=by
  have:=Nat.mul_le_mul (show l[k]<=255 by omega) hp;omega
 rw[or_val _ _ _ (by omega),Nat.mod_eq_of_lt h64,xI _ _ _ hv,List.take_succ_eq_append_getElem hk,rU,hlen,tH]
theorem kM(b:Nat)(st:Left)(n:Int)(w:World)(hn0:-9223372036854775808<=n)(hn1:n<=9223372036854775807)(hok:OkL st)(h:CR w b st) :
  Calls prog 39 #[.pointer (some ⟨b,0,none⟩),.int .i64 n] w fun e w'=>e=.returned (.int .u64 (aW (gZ (fx n) st).1:Int))/\CR w' b (gZ (fx n) st).2/\w.grownBy w' (some b):=by
 have hfx:=aiz n;have Hfx:=hid (zI n w hn0 hn1);have hr:=gD b st (fx n:Int) w h;rw[Int.toNat_natCast]at hr;have hok2:=adj (n:=fx n) hok;generalize fx n=m at *;obtain⟨l,st',hgs⟩:∃l st',gZ m st=(l,st'):=⟨_,_,rfl⟩;rw[hgs]at hr hok2 ⊢;have hlt:=hok2.2.1;have hl8:l.length<=8:=Nat.le_trans hok2.2.2 hfx;have Hr:=hid hr;have Hlt:=hid hlt;obtain⟨res,hres⟩:∃r,r=aW l:=⟨_,rfl⟩;rw[<-hres];have dV:=hid hres;clear hr hok2 hok h hgs hlt hn0 hn1 hfx hres;go_enter func39,ntmps39
 go_wp2_with fail
 refine Hfx.out.mono ?_;rintro e w' ⟨rfl,rfl⟩;go_wp2_with fail
 refine Hr.out.mono ?_;rintro e w1 ⟨rfl,hcr,hgr⟩;obtain⟨w2,cap,dB,hcells,hbel⟩:=bU w1 l Hlt.out;have hbw:=hcr.lt;have Hcr:=hid (hcr.below hbel);have Hgr:=hid (ay hgr (ak hbel (some b)));have zu:=hid hcells;have Hor:=hid (fun k hk=>afJ l k hk hl8 Hlt.out);clear hcr hgr hcells hbel;obtain⟨g,hg⟩:∃g,g=w1.heap.size:=⟨_,rfl⟩;rw[<-hg]at dB zu;clear hg;generalize strOf l=s at dB ⊢;obtain⟨N,hN⟩:∃N,N=l.length:=⟨_,rfl⟩;rw[<-hN]at dB hl8;have HN:=hid hN;clear hN;go_wp2;go_loop [5,14] (fun v i=>∃k V:Nat,k<=N/\i=.int .i64 (k:Int)/\v=.int .u64 (V:Int)/\Hid (V=aW (l.take k))) (fun _ i=>N-(intOf i).toNat)
 case atStart=>exact⟨0,0,by omega,rfl,rfl,rfl⟩
 case round=>
  obtain⟨k,V,hk,rfl,rfl,hV⟩:=hrel;by_cases hlt:k<N
  ·have hk1:k<l.length:=by rw[<-HN.out];exact hlt
   have hc:=zu.out k hk1;have hc8:=Hlt.out l[k] (List.getElem_mem hk1);have hor:=Hor.out k hk1;rw[<-hV.out]at hor;have amO:=hid hor;clear hor;generalize l[k]=c at hc hc8 amO;clear hk1;go_wp2;rw[amO.out];go_round
   case rel=>exact⟨k+1,_,by omega,by go_num,rfl,rfl⟩
   case measure=>simp[intOf];omega
  ·obtain rfl:k=N:=by omega
   have hVr:V=res:=by rw[hV.out,HN.out,List.take_length,dV.out]
   subst hVr;go_wp2;go_ret;exact⟨rfl,Hcr.out,Hgr.out⟩
theorem Et(t:List Nat)(h0:0<(au t).2):fB (some t)=((au t).1,some (t.drop (au t).2)):=by
 simp only[fB,if_pos h0]
theorem Zm(t:List Nat)(h0:¬0<(au t).2):fB (some t)=(0,none):=by
 simp only[fB,if_neg h0]
theorem ni(m:Int)(t:List Nat)(h0:0<(au t).2)(hm:((au t).1:Int)<=m):zm m (some t)=((au t).1,some (t.drop (au t).2)):=by
 unfold zm;rw[Et t h0,if_neg];rintro(h | h | h)
 ·cases h
 ·omega
 ·dsimp only at h;omega
theorem Aa(m:Int)(t:List Nat)(h:¬(0<(au t).2/\((au t).1:Int)<=m)):zm m (some t)=(0,none):=by
 unfold zm;by_cases h0:0<(au t).2
 ·rw[Et t h0,if_pos];by_cases hm:m<0
  ·exact .inr (.inl hm)
  ·exact .inr (.inr (by dsimp only;omega))
 ·rw[Zm t h0,if_pos (.inl rfl)]
theorem abM(t:List Nat)(h:0<(au t).2/\(au t).1<=t.length-(au t).2)(_:t.length<=100000000) :
  yD 9223372036854775807 (some t)=((t.drop (au t).2).take (au t).1,some (t.drop ((au t).2+(au t).1))):=by
 unfold yD;rw[ni 9223372036854775807 t h.1 (by omega)];simp only[gZ];rw[if_pos (by rw[List.length_drop];exact h.2),List.drop_drop]
theorem agC(t:List Nat)(h:¬(0<(au t).2/\(au t).1<=t.length-(au t).2))(_:t.length<=100000000) :
  yD 9223372036854775807 (some t)=([],none):=by
 unfold yD;by_cases h0:0<(au t).2/\((au t).1:Int)<=9223372036854775807
 ·rw[ni 9223372036854775807 t h0.1 h0.2];simp only[gZ];rw[if_neg (by rw[List.length_drop];omega)]
 ·rw[Aa 9223372036854775807 t h0];rfl
theorem Pm{w w':World}{b:Nat}{st:Left}{A:Option Addr}{l:List Nat}(h:CR w b st)(hr:Reads w A (aM l))(hg:w.grownBy w' (some b)):Reads w' A (aM l):=fun hne=>by
 obtain⟨g,off,rfl,hc⟩:=hr hne;refine⟨g,off,rfl,fun j hj=>?_⟩;have h1:=hc j hj;rw[aN]at hj;rw[bK l j hj]at h1 ⊢;refine hg.cell h1 (fun e=>?_);injection e with e
 dsimp only at e;subst e;have h2:=(Row.cell h (off+j)).symm.trans h1;have hrc:∀(m:Nat) (z:Int),(kK st)[m]?≠some (.int .i64 z):=by
  intro m z hx;rcases st with _ | bs
  all_goals
   match m,hx with
   | 0,hx=>simp[kK]at hx
   | 1,hx=>simp[kK]at hx
   | m+2,hx=>simp[kK]at hx
 exact hrc _ _ h2
theorem vK(k:Nat)(r:List Nat):gZ (fx 1) (some (k :: r))=([k],some r):=by
 rw[show fx 1=1 by decide];simp[gZ]
theorem xW(n:Nat)(t:List Nat)(h:n<=t.length):gZ n (some t)=(t.take n,some (t.drop n)):=by
 simp only[gZ,if_pos h]
theorem Fp(n:Nat)(t:List Nat)(h:¬n<=t.length):gZ n (some t)=([],none):=by
 simp only[gZ,if_neg h]
theorem abx(w:World):Calls prog 44 #[] w fun e w'=>e=.returned (.agg #[.int .u64 7640891576956012808,.int .u64 0])/\Below w.heap.size w w':=by
 go_enter func44,ntmps44
 go_wp2;refine bodyPost_ret (v:=.agg #[.int .u64 7640891576956012808,.int .u64 0]) (by simp[results,results44,go_sem]) rfl ⟨rfl,?_⟩;exact(Below.refl _ _).alloc (Nat.le_refl _) _
theorem Wd(h n b:Nat)(w:World)(hh:h<18446744073709551616)(hb:b<256) :
  Calls prog 78 #[.agg #[.int .u64 (h:Int),.int .u64 (n:Int)],.int .u8 (b:Int)] w fun e w'=>e=.returned (.agg #[.int .u64 (CS h b:Int),.int .u64 (((n+1)%18446744073709551616:Nat):Int)])/\Below w.heap.size w w':=by
 have e1:=ajM h b hh hb;have e2:=ajN h b;generalize aal h b=m at e1 e2;generalize CS h b=r at e2 ⊢;go_enter func78,ntmps78
 go_wp2;refine bodyPost_ret (v:=.agg #[.int .u64 (r:Int),.int .u64 (IntKind.u64.wrap ((n:Int)+1))]) (by simp[results,results78,go_sem]) rfl ⟨?_,?_⟩
 ·rw[IntKind.wrap_u64];simp
 ·exact((Below.refl _ _).alloc (Nat.le_refl _) _).alloc (by simp) _
theorem aby(h n:Nat)(w:World):Calls prog 46 #[.agg #[.int .u64 (h:Int),.int .u64 (n:Int)]] w fun e w'=>e=.returned (.int .u64 (ahs h n:Int))/\Below w.heap.size w w':=by
 have e1:=amj h n;have e2:=amk h n;generalize aam h n=m at e1 e2;generalize ahs h n=r at e2 ⊢;go_enter func46,ntmps46
 go_wp2;go_ret;exact⟨rfl,(Below.refl _ _).alloc (Nat.le_refl _) _⟩
def mg(h n:Nat):List Value:=[.int .u64 (h:Int),.int .u64 (n:Int)]
theorem Row.state{w:World}{b h n h' n':Nat}(hr:Row w b 88 (mg h n)):Row ((w.setCell ⟨b,0,none⟩ (.int .u64 (h':Int))).setCell ⟨b,1,none⟩ (.int .u64 (n':Int))) b 88 (mg h' n'):=
 (hr.aT 0 (.int .u64 (h':Int))).aT 1 (.int .u64 (n':Int))
theorem abj(h n:Nat)(l:List Nat)(w:World)(hh:h<18446744073709551616)(hn:n<18446744073709551616)(hl:l.length<=1000000000)(hlt:∀x∈l,x<256) :
  Calls prog 45 #[.agg #[.int .u64 (h:Int),.int .u64 (n:Int)],.string (strOf l)] w fun e w'=>e=.returned (.agg #[.int .u64 (ku h l:Int),.int .u64 (((n+l.length)%18446744073709551616:Nat):Int)])/\Below w.heap.size w w':=by
 have hsz:=aA l;have hidx:∀(i:Nat) (W:World) (hi:i<l.length),(Instr.index 9 (.string (strOf l)) (.int .i64 (i:Int))).run prog W=.ok (.int .u8 ((l[i]:Nat):Int)) W:=fun i W hi=>vL l i W hi (hlt _ (List.getElem_mem hi))
 have Dl:=hid hidx;have Hlt:=hid hlt;have Hn:=hid hn;have hres:∀k,k<l.length->CS (ku h (l.take k)) (l[k]?.getD 0)=ku h (l.take (k+1)):=fun k hk=>by
  rw[zT h l k hk];simp[hk]
 have dV:=hid hres;have Hhk:=hid (fun k=>Zi h (l.take k) hh);obtain⟨r,hr⟩:∃r,r=ku h l:=⟨_,rfl⟩;rw[<-hr];have Hr:=hid hr;obtain⟨N,hN⟩:∃N,N=(n+l.length)%18446744073709551616:=⟨_,rfl⟩;rw[<-hN];have HN:=hid hN;clear hN;clear hidx hlt hn hres hr;generalize strOf l=s at hsz Dl ⊢;go_enter func45,ntmps45
 go_wp2;go_loopw [5,8] (fun x i wr=>∃k:Nat,k<=l.length/\i=.int .i64 (k:Int)/\Hid (Row wr w.heap.size 88 (mg (ku h (l.take k)) ((n+k)%18446744073709551616)))/\Hid (Row wr (w.heap.size+1) 88 (mg 0 0))/\Hid (Below w.heap.size w wr)) (fun _ i _=>l.length-(intOf i).toNat)
 case atStart=>
  refine⟨0,by omega,rfl,?_,?_,?_⟩
  ·rw[show(n+0)%18446744073709551616=n from Nat.mod_eq_of_lt Hn.out];exact(Row.new w 88 (mg h n)).alloc _
  ·have h2:=Row.new (w.alloc (.cells #[.int .u64 (h:Int),.int .u64 (n:Int)] 88)) 88 (mg 0 0);rw[show(w.alloc (.cells #[.int .u64 (h:Int),.int .u64 (n:Int)] 88)).heap.size=w.heap.size+1 by simp]at h2;exact h2
  ·exact((Below.refl _ _).alloc (Nat.le_refl _) _).alloc (by simp) _
 case round=>
  obtain⟨k,hk,rfl,hrow,hrow2,hbel⟩:=hrel;by_cases hkl:k<l.length
  ·have hx:=fun W=>Dl.out k W hkl
   have hby:=fun m W=>Wd (ku h (l.take k)) m l[k] W (Hhk.out k) (Hlt.out _ (List.getElem_mem hkl))
   rw[show CS (ku h (l.take k)) l[k]=ku h (l.take (k+1)) by rw[zT h l k hkl]]at hby;have Hr2:=hid (fun m=>show((n+k)%18446744073709551616+1)%18446744073709551616=m->m=(n+(k+1))%18446744073709551616 from fun e=>by omega);generalize (n+k)%18446744073709551616=m at hrow Hr2;have hby:=hby m;generalize hm:(m+1)%18446744073709551616=m' at hby;have Hm:=hid (Hr2.out m' hm);have Hby:=hid hby;clear hm Hr2 hby Dl Hlt dV;generalize l[k]=b at hx Hby;generalize ku h (l.take k)=y at Hby hrow;generalize hy':ku h (l.take (k+1))=y' at Hby;have Hy':=hid hy';clear hy' Hhk;have c0:=hrow.out.cell 0;have c1:=hrow.out.cell 1;simp only[mg,List.getElem?_cons_zero,List.getElem?_cons_succ]at c0 c1;go_wp2;go_still_tail 4,(by kernel_rfl)
   change wpList _ _ _ _ _ wr.drew;clear hx c0 c1;have hrow':Row wr.drew w.heap.size 88 (mg y m):=hrow.out;have acW:Row wr.drew (w.heap.size+1) 88 (mg 0 0):=hrow2.out;have Zo:Below w.heap.size w wr.drew:=hbel.out.drew;have gF:=hid hrow';have dL:=hid acW;have jB:=hid Zo;clear hrow hrow2 hbel hrow' acW Zo;generalize wr.drew=w1 at gF dL jB ⊢;go_wp2_with fail
   refine(Hby.out w1).mono ?_;rintro e w2 ⟨rfl,hb2⟩;have hrow:=gF.out.below hb2;have kg:=hid hrow;have Dy:=hid (dL.out.below hb2);have QT:=hid (jB.out.trans (hb2.mono jB.out.size));have c0:=hrow.cell 0;have c1:=hrow.cell 1;simp only[mg,List.getElem?_cons_zero,List.getElem?_cons_succ]at c0 c1;have f0:=hrow.free 0;have f1:=hrow.free 1;clear hrow hb2 gF dL jB;go_wp2;go_roundw
   case rel=>
    refine⟨k+1,by omega,by go_num,?_,?_,?_⟩
    ·rw[Hy'.out,<-Hm.out];exact kg.out.state
    ·exact(Dy.out.far (by simp) _).far (by simp) _
    ·exact(QT.out.setCell (Nat.le_refl _) _).setCell (Nat.le_refl _) _
   case measure=>simp[intOf];omega
  ·obtain rfl:k=l.length:=by omega
   rw[List.take_length,<-Hr.out,<-HN.out]at hrow;clear HN Hr;have c0:=hrow.out.cell 0;have c1:=hrow.out.cell 1;have d0:=hrow2.out.cell 0;have d1:=hrow2.out.cell 1;simp only[mg,List.getElem?_cons_zero,List.getElem?_cons_succ]at c0 c1 d0 d1;have f0:=hrow2.out.free 0;have f1:=hrow2.out.free 1;clear hrow;have s0:=(hrow2.out.aT 0 (.int .u64 (r:Int))).cell 0;have s1:=((hrow2.out.aT 0 (.int .u64 (r:Int))).aT 1 (.int .u64 (N:Int))).cell 1;simp only[mg,List.set_cons_zero,List.set_cons_succ,List.getElem?_cons_zero,List.getElem?_cons_succ]at s0 s1;have S0:=hid s0;have S1:=hid s1;clear s0 s1;go_wp2;have s0:=S0.out;have s1:=S1.out;refine bodyPost_ret (v:=.agg #[.int .u64 (r:Int),.int .u64 (N:Int)]) (by simp[results,results45,go_sem,s0,s1]) rfl ⟨rfl,?_⟩;exact(hbel.out.setCell (by simp) _).setCell (by simp) _
theorem afv(v n:Nat)(hv:v<2^64)(hn:n<64):bits .and .u64 (v:Int) (IntKind.u64.wrap (IntKind.u64.wrap (2^n)-1))=((v%2^n:Nat):Int):=by
 have hp:2^n<2^64:=Nat.pow_lt_pow_right (by omega) hn;have e:((2:Int)^n)=((2^n:Nat):Int):=by simp
 have hpos:=Nat.two_pow_pos n;rw[e,vS _ hp,show((2^n:Nat):Int)-1=((2^n-1:Nat):Int) by omega,vS _ (by omega),u64_and_nat _ _ hv (by omega),Nat.and_two_pow_sub_one_eq_mod]
theorem sZ(v n:Nat)(w:World)(hv:v<2^64)(hn:n<64) :
  Calls prog 116 #[.int .u64 (v:Int),.int .i64 (n:Int)] w fun e w'=>e=.returned (.int .u64 ((v%2^n:Nat):Int))/\w=w':=by
 have hm:=afv v n hv hn;have Hm:=hid hm;clear hm hv;go_enter func116,ntmps116
 go_wp2;go_ret;exact⟨congrArg Ending.returned (congrArg (Value.int .u64) Hm.out),rfl⟩
theorem Um(b off:Nat)(n:Int)(w:World)(h:w.cell? ⟨b,off+2,none⟩=some (.int .i64 n)) :
  Calls prog 197 #[.pointer (some ⟨b,off,none⟩)] w fun e w'=>e=.returned (.int .i64 n)/\w=w':=by
 go_enter func197,ntmps197
 go_wp2;go_ret;exact⟨rfl,rfl⟩
theorem Ul(b off:Nat)(s:ByteArray)(n:Nat)(w:World)(hs:s.size<=1000000000)(hn:n<=8*s.size)(h0:w.cell? ⟨b,off,none⟩=some (.string s))(h:w.cell? ⟨b,off+1,none⟩=some (.int .i64 (n:Int))) :
  Calls prog 170 #[.pointer (some ⟨b,off,none⟩)] w fun e w'=>e=.returned (.int .i64 ((8*s.size-n:Nat):Int))/\∃k,w'=w.drewN k:=by
 have hx:(8*(s.size:Int)-(n:Int))=((8*s.size-n:Nat):Int):=by omega
 have Hx:=hid hx;clear hx;go_enter func170,ntmps170
 go_wp2;go_quiet (fail)
 go_wp2;go_ret;exact⟨congrArg Ending.returned (congrArg (Value.int .i64) Hx.out),_,rfl⟩
theorem vN(b off:Nat)(bs:List Nat)(n:Nat)(w:World)(hs:bs.length<=1000000000)(hn:n<=8*bs.length)(h:RS w b off bs n) :
  Calls prog 170 #[.pointer (some ⟨b,off,none⟩)] w fun e w'=>e=.returned (.int .i64 ((8*bs.length-n:Nat):Int))/\∃k,w'=w.drewN k:=by
 have h1:=Ul b off (strOf bs) n w (by rw[aA];exact hs) (by rw[aA];exact hn) h.1 h.2.1;rw[aA]at h1;exact h1
theorem ajT{w:World}{b off N n rest v m:Nat}{p:Option Addr}{us:List Nat}(hlow:n%64+m<64)
  (h0:w.cell? ⟨b,off,none⟩=some (.pointer p)) (h1:w.cell? ⟨b,off+1,none⟩=some (.int .u64 (rest:Int))) (h2:w.cell? ⟨b,off+2,none⟩=some (.int .i64 (n:Int)))
  (f0:w.frozen? ⟨b,off,none⟩=false) (f1:w.frozen? ⟨b,off+1,none⟩=false) (f2:w.frozen? ⟨b,off+2,none⟩=false) (hn:yR w b 188) (hc:Chain w p us) (hw:WOk N n rest us) :
  WS ((w.setCell ⟨b,off+1,none⟩ (.int .u64 ((rest ||| v%2^m*2^(n%64)%2^64:Nat):Int))).setCell ⟨b,off+2,none⟩ (.int .i64 ((n+m:Nat):Int))) b off (N+v%2^m*2^n) (n+m) /\
   w.grownBy ((w.setCell ⟨b,off+1,none⟩ (.int .u64 ((rest ||| v%2^m*2^(n%64)%2^64:Nat):Int))).setCell ⟨b,off+2,none⟩ (.int .i64 ((n+m:Nat):Int))) (some b):=by
 have hg:w.grownBy ((w.setCell ⟨b,off+1,none⟩ (.int .u64 ((rest ||| v%2^m*2^(n%64)%2^64:Nat):Int))).setCell ⟨b,off+2,none⟩ (.int .i64 ((n+m:Nat):Int))) (some b):=
  aB (aB (aj _ _) _ _) _ _
 refine⟨⟨p,_,us,?_,?_,?_,?_,?_,?_,(hn.setCell _ _).setCell _ _,hc.keep (qb hg (fun g e=>by injection e with e;subst e;exact hn)),hw.JC v m hlow⟩,hg⟩
 ·rw[World.cell?_setCell_other _ _ _ _ (by intro e;injection e with _ e _;omega),World.cell?_setCell_other _ _ _ _ (by intro e;injection e with _ e _;omega)];exact h0
 ·rw[World.cell?_setCell_other _ _ _ _ (by intro e;injection e with _ e _;omega),World.cell?_setCell_same _ _ _ h1]
 ·rw[World.cell?_setCell_same _ _ _ (show _=some (.int .i64 (n:Int))from by rw[World.cell?_setCell_other _ _ _ _ (by intro e;injection e with _ e _;omega)];exact h2)]
 ·simpa using f0
 ·simpa using f1
 ·simpa using f2
theorem JC(b off N n:Nat)(v m:Nat)(w:World)(hn:n<=1000000000)(hv:v<4294967296)(hm:m<=32)(hlow:n%64+m<64)(h:WS w b off N n) :
  Calls prog 93 #[.pointer (some ⟨b,off,none⟩),.int .u32 (v:Int),.int .i64 (m:Int)] w fun e w'=>e=.returned (.bool true)/\WS w' b off (N+v%2^m*2^n) (n+m)/\w.grownBy w' (some b):=by
 obtain⟨p,rest,us,h0,h1,h2,f0,f1,f2,hnt,hc,hw⟩:=h;have hz:=ajT (v:=v) (m:=m) hlow h0 h1 h2 f0 f1 f2 hnt hc hw;have Hz:=hid hz;have ho:=or_val rest (v%2^m) (n%64) hw.VN;have Ho:=hid ho;clear hz ho hc hw hnt f0;go_enter func93,ntmps93
 go_wp2_with fail
 refine(sZ v m _ (by omega) (by omega)).mono ?_;rintro e w' ⟨rfl,rfl⟩;go_wp2;go_region
 all_goals go_wp2
 go_ret;rw[adg,Ho.out,<-Int.natCast_add];exact⟨rfl,Hz.out.1.drew,bf Hz.out.2⟩
def Tw(w:World)(b off n rest x m:Nat)(p:Option Addr):World:=
 ((((w.setCell ⟨b,off+1,none⟩ (.int .u64 ((rest ||| x*2^(n%64)%2^64:Nat):Int))).setCell ⟨b,off+2,none⟩ (.int .i64 ((n+m:Nat):Int))).setCell ⟨b,off,none⟩ (.pointer (some ⟨w.heap.size,0,none⟩))).setCell
  ⟨b,off+1,none⟩ (.int .u64 ((x/2^(64-n%64):Nat):Int))).alloc (.cells #[.pointer p,.int .u64 ((rest ||| x*2^(n%64)%2^64:Nat):Int)] 188)
theorem agR{w:World}{b off N n rest v m:Nat}{p:Option Addr}{us:List Nat}(hm:m<=32)(hge:64<=n%64+m)
  (h0:w.cell? ⟨b,off,none⟩=some (.pointer p)) (h1:w.cell? ⟨b,off+1,none⟩=some (.int .u64 (rest:Int))) (h2:w.cell? ⟨b,off+2,none⟩=some (.int .i64 (n:Int)))
  (f0:w.frozen? ⟨b,off,none⟩=false) (f1:w.frozen? ⟨b,off+1,none⟩=false) (f2:w.frozen? ⟨b,off+2,none⟩=false) (hn:yR w b 188) (hc:Chain w p us) (hw:WOk N n rest us) :
  WS (Tw w b off n rest (v%2^m) m p) b off (N+v%2^m*2^n) (n+m)/\w.grownBy (Tw w b off n rest (v%2^m) m p) (some b):=by
 have hg0:w.grownBy ((((w.setCell ⟨b,off+1,none⟩ (.int .u64 ((rest ||| v%2^m*2^(n%64)%2^64:Nat):Int))).setCell ⟨b,off+2,none⟩ (.int .i64 ((n+m:Nat):Int))).setCell ⟨b,off,none⟩
   (.pointer (some ⟨w.heap.size,0,none⟩))).setCell ⟨b,off+1,none⟩ (.int .u64 ((v%2^m/2^(64-n%64):Nat):Int))) (some b):=aB (aB (aB (aB (aj _ _) _ _) _ _) _ _) _ _
 have hs0:((((w.setCell ⟨b,off+1,none⟩ (.int .u64 ((rest ||| v%2^m*2^(n%64)%2^64:Nat):Int))).setCell ⟨b,off+2,none⟩ (.int .i64 ((n+m:Nat):Int))).setCell ⟨b,off,none⟩
   (.pointer (some ⟨w.heap.size,0,none⟩))).setCell ⟨b,off+1,none⟩ (.int .u64 ((v%2^m/2^(64-n%64):Nat):Int))).heap.size=w.heap.size:=by simp
 have hg:w.grownBy (Tw w b off n rest (v%2^m) m p) (some b):=aF hg0 _;have hb:=hn.lt;have hrow:Row (Tw w b off n rest (v%2^m) m p) w.heap.size 188 [.pointer p,.int .u64 ((rest ||| v%2^m*2^(n%64)%2^64:Nat):Int)]:=by
  have:=Row.new ((((w.setCell ⟨b,off+1,none⟩ (.int .u64 ((rest ||| v%2^m*2^(n%64)%2^64:Nat):Int))).setCell ⟨b,off+2,none⟩ (.int .i64 ((n+m:Nat):Int))).setCell ⟨b,off,none⟩
   (.pointer (some ⟨w.heap.size,0,none⟩))).setCell ⟨b,off+1,none⟩ (.int .u64 ((v%2^m/2^(64-n%64):Nat):Int))) 188 [.pointer p,.int .u64 ((rest ||| v%2^m*2^(n%64)%2^64:Nat):Int)]
  rw[hs0]at this;exact this
 have ne1:(⟨b,off+1,none⟩:Addr)≠⟨b,off,none⟩:=by intro e;injection e with _ e _;omega
 have ne2:(⟨b,off+2,none⟩:Addr)≠⟨b,off,none⟩:=by intro e;injection e with _ e _;omega
 have ne3:(⟨b,off+2,none⟩:Addr)≠⟨b,off+1,none⟩:=by intro e;injection e with _ e _;omega
 refine⟨⟨some ⟨w.heap.size,0,none⟩,_,_ :: us,?_,?_,?_,?_,?_,?_,((((hn.setCell _ _).setCell _ _).setCell _ _).setCell _ _).alloc _,⟨_,p,rfl,hrow,hc.keep (qb hg (fun g e=>by injection e with e;subst e;exact hn))⟩,hw.Cz v m hm hge⟩,hg⟩ <;>
  unfold Tw
 ·rw[World.cell?_alloc_lt _ _ _ (by simpa using hb),World.cell?_setCell_other _ _ _ _ ne1];exact World.cell?_setCell_same _ _ _ (u:=.pointer p) (by rw[World.cell?_setCell_other _ _ _ _ ne2,World.cell?_setCell_other _ _ _ _ ne1];exact h0)
 ·rw[World.cell?_alloc_lt _ _ _ (by simpa using hb)];exact World.cell?_setCell_same _ _ _ (u:=.int .u64 ((rest ||| v%2^m*2^(n%64)%2^64:Nat):Int)) (by
   rw[World.cell?_setCell_other _ _ _ _ ne1.symm,World.cell?_setCell_other _ _ _ _ ne3];exact World.cell?_setCell_same _ _ _ h1)
 ·rw[World.cell?_alloc_lt _ _ _ (by simpa using hb),World.cell?_setCell_other _ _ _ _ ne3.symm,World.cell?_setCell_other _ _ _ _ ne2.symm];exact World.cell?_setCell_same _ _ _ (u:=.int .i64 (n:Int)) (by rw[World.cell?_setCell_other _ _ _ _ ne3.symm];exact h2)
 ·rw[World.frozen?_alloc_past _ _ _ (by simpa using hb)];simpa using f0
 ·rw[World.frozen?_alloc_past _ _ _ (by simpa using hb)];simpa using f1
 ·rw[World.frozen?_alloc_past _ _ _ (by simpa using hb)];simpa using f2
theorem Cz(b off N n:Nat)(v m:Nat)(w:World)(hn:n<=1000000000)(hv:v<4294967296)(hm:m<=32)(hge:64<=n%64+m)(h:WS w b off N n) :
  Calls prog 93 #[.pointer (some ⟨b,off,none⟩),.int .u32 (v:Int),.int .i64 (m:Int)] w fun e w'=>e=.returned (.bool true)/\WS w' b off (N+v%2^m*2^n) (n+m)/\w.grownBy w' (some b):=by
 obtain⟨p,rest,us,h0,h1,h2,f0,f1,f2,hnt,hc,hw⟩:=h;have hz:=agR (v:=v) (m:=m) hm hge h0 h1 h2 f0 f1 f2 hnt hc hw;have Hz:=hid hz;have ho:=or_val rest (v%2^m) (n%64) hw.VN;have Ho:=hid ho;have hb:=hnt.lt;have hd:((v%2^m:Nat):Int)/2^(64-n%64)=((v%2^m/2^(64-n%64):Nat):Int):=by simp
 have Hd:=hid hd;clear hz ho hc hw hnt hd;go_enter func93,ntmps93
 go_wp2_with fail
 refine(sZ v m _ (by omega) (by omega)).mono ?_;rintro e w' ⟨rfl,rfl⟩;go_wp2;go_region
 all_goals go_wp2
 go_region
 all_goals go_wp2
 go_ret;rw[adg,Ho.out,Hd.out,<-Int.natCast_add];exact⟨rfl,Hz.out.1.drew.drew,bf (bf Hz.out.2)⟩
theorem qY(b off N n:Nat)(v m:Nat)(w:World)(hn:n<=1000000000)(hv:v<4294967296)(hm:m<=32)(h:WS w b off N n) :
  Calls prog 93 #[.pointer (some ⟨b,off,none⟩),.int .u32 (v:Int),.int .i64 (m:Int)] w fun e w'=>e=.returned (.bool true)/\WS w' b off (N+v%2^m*2^n) (n+m)/\w.grownBy w' (some b):=by
 by_cases hl:n%64+m<64
 ·exact JC b off N n v m w hn hv hm hl h
 ·exact Cz b off N n v m w hn hv hm (by omega) h
theorem SX(A:Option Addr)(c:Nat)(v:Int)(w:World) :
  Calls prog 117 #[.slice A 0 c,.int .u64 v] w fun e w'=>e=.returned (.tuple #[])/\w=w':=by
 go_enter func117,ntmps117
 go_wp2;go_loop [8] (fun i=>i=.int .i64 0) (fun _=>0)
 case atStart=>rfl
 case round=>
  obtain rfl:=hrel;go_wp2;go_end0
  exact⟨rfl,rfl⟩
theorem abf{w:World}{g off k v:Nat}{cs:List Nat}(hl:off+k<cs.length)(h:Row w g 5 (u8s (fA cs off k v))) :
  Row (w.setCell ⟨g,off+k,none⟩ (.int .u8 ((v/256^k%256:Nat):Int))) g 5 (u8s (fA cs off (k+1) v)):=by
 have h1:=h.aT (off+k) (.int .u8 ((v/256^k%256:Nat):Int));rw[yK,zP _ _ _ _ hl]at h1;exact h1
theorem Ep(g off len c v:Nat)(cs:List Nat)(w:World)(hl:off+len<=cs.length)(hcl:cs.length<=1000000000)(hr:Row w g 5 (u8s cs)) :
  Calls prog 117 #[.slice (some ⟨g,off,none⟩) len c,.int .u64 (v:Int)] w fun e w'=>e=.returned (.tuple #[])/\Row w' g 5 (u8s (fA cs off (min len 8) v))/\w.grownBy w' (some g):=by
 obtain⟨m,hm⟩:∃m,m=min len 8:=⟨_,rfl⟩;have hm8:m<=8:=by omega
 have hml:m<=len:=by omega
 have hmin:Hid ((min (len:Int) 8)=(m:Int)):=by unfold Hid;omega
 rw[<-hm];clear hm;go_enter func117,ntmps117
 go_wp2;rw[hmin.out];go_loopw [8] (fun i wr=>∃k:Nat,k<=m/\i=.int .i64 (k:Int)/\Row wr g 5 (u8s (fA cs off k v))/\w.grownBy wr (some g)) (fun i _=>m-(intOf i).toNat)
 case atStart=>exact⟨0,Nat.zero_le _,rfl,by rw[zQ];exact hr,aj _ _⟩
 case round=>
  obtain⟨k,hk,rfl,hrow,hgr⟩:=hrel;by_cases hlt:k<m
  ·have hcell:=hrow.cell (off+k);have hfree:=hrow.free (off+k);have hlen:off+k<(fA cs off k v).length:=by rw[uK _ _ _ _ (by omega)];omega
   rw[bD _ _ hlen]at hcell;generalize (fA cs off k v)[off+k]=old at hcell;have gF:=hid hrow;have Hgr:=hid hgr;clear hrow hgr hlen hr;go_wp2;rw[KI];go_roundw
   case rel=>exact⟨k+1,by omega,by go_num,abf (by omega) gF.out,aB Hgr.out _ _⟩
   case measure=>simp[intOf];omega
  ·obtain rfl:k=m:=by omega
   go_wp2;go_end0
   exact⟨rfl,hrow,hgr⟩
theorem MB(g L q:Nat)(W:World)(h:q<L)(_hL:L<=1000000000):(Instr.slice 60 (.slice (some ⟨g,0,none⟩) L L) (some (.int .i64 (q:Int))) none none).run prog W=.ok (.slice (some ⟨g,q,none⟩) (L-q) (L-q)) W:=by
 have h1:¬L=q:=by omega
 have h2:q<=L:=by omega
 go_simp
theorem Wv(g L q:Nat)(W:World)(h:q=L):(Instr.slice 60 (.slice (some ⟨g,0,none⟩) L L) (some (.int .i64 (q:Int))) none none).run prog W=.ok (.slice (some ⟨g,0,none⟩) 0 0) W:=by
 subst h;go_simp
theorem Zf(g q c v:Nat)(w:World)(hr:Row w g 5 (u8s (List.replicate q 0))) :
  Calls prog 117 #[.slice (some ⟨g,0,none⟩) 0 c,.int .u64 (v:Int)] w fun e w'=>e=.returned (.tuple #[])/\Row w' g 5 (u8s (fA (List.replicate q 0) q (min (q-q) 8) v))/\w.grownBy w' (some g):=
 (SX _ c v w).mono fun e w' ⟨he,hw⟩=>by
  subst hw;refine⟨he,?_,aj _ _⟩;rw[Nat.sub_self,show min 0 8=0 from rfl,zQ];exact hr
theorem DW{N n rest q L:Nat}{us:List Nat}(h:WOk N n rest us)(hq:q=8*(n/64))(hL:L=(n+7)/8) :
  fA (List.replicate L 0) q (min (L-q) 8) rest=List.replicate q 0++(Bm.bytesOf N L).drop q:=by
 have h1:=GD N n rest us h;rw[h.1]at h1;rw[hq,hL];exact h1
theorem kr(b off N n:Nat)(w:World)(hn:n<=1000000000)(h:WS w b off N n) :
  Calls prog 94 #[.pointer (some ⟨b,off,none⟩)] w fun e w'=>∃g,e=.returned (.slice (some ⟨g,0,none⟩) ((n+7)/8) ((n+7)/8))/\w.heap.size<=g/\Row w' g 5 (u8s (Bm.bytesOf N ((n+7)/8)))/\Below w.heap.size w w':=by
 obtain⟨i0,hi,hz0,hz1,hz2⟩:=info_parts jh;have HW:=hid h;obtain⟨p,rest,us,h0,h1,h2,f0,f1,f2,hnt,hc,hw⟩:=h;have Hc:=hid hc;have Hw:=hid hw;clear f0 f1 f2 hnt hc hw;go_enter func94,ntmps94
 go_wp2_with (at_make;refine wpList_make_full _ rfl _ _ 60 rfl w.heap.size 5 i0 (.int .u8 0) 1 underlying60 hi hz0 hz1 .i64 .i64 _ _ ((n+7)/8) rfl rfl ?c1 ?c1 ?c2 ?c3 ?c4 ?_)
 case c1=>omega
 case c2=>rw[hz2];omega
 case c3=>unfold maxLen;omega
 case c4=>exact Nat.le_refl _
 intro w1 hown1 hg1;have hb1:=aJ hg1;have HW1:=hid (HW.out.keep hg1 (by simp) (by simp));have hr1:Row w1 w.heap.size 5 (u8s (List.replicate ((n+7)/8) 0)):=nX hown1;have d1:w1.cell? ⟨b,off+1,none⟩=some (.int .u64 (rest:Int)):=(hb1.cell (p:=⟨b,off+1,none⟩) (World.block_lt_of_cell? w _ h1)).trans h1;have d2:w1.cell? ⟨b,off+2,none⟩=some (.int .i64 (n:Int)):=(hb1.cell (p:=⟨b,off+2,none⟩) (World.block_lt_of_cell? w _ h2)).trans h2;have Hb1:=hid hb1;have Hr1:=hid hr1;have H0:=hid h0;clear hown1 hg1 hb1 hr1 h0 h1 h2;obtain⟨q,hq⟩:∃q,q=8*(n/64):=⟨_,rfl⟩;obtain⟨L,hL⟩:∃L,L=(n+7)/8:=⟨_,rfl⟩;have hqL:q<=L:=by omega
 have aqm:L<=q+8:=by omega
 have hLs:L<=1000000000:=by omega
 have hke:(n:Int)/64*8=(q:Int):=by omega
 have Hq:=hid hq;have Hke:=hid hke;have HL:=hid hL;clear hq hke hL;go_wp2;rw[Hke.out,<-HL.out];rw[<-HL.out]at Hr1;have hpost:∀w2,Row w2 w.heap.size 5 (u8s (fA (List.replicate L 0) q (min (L-q) 8) rest))->Row w2 w.heap.size 5 (u8s (List.replicate q 0++(Bm.bytesOf N L).drop q)):=
  fun w2 h=>by rw[<-DW Hw.out Hq.out HL.out];exact h
 have Dx:=hid hpost;clear hpost;by_cases hlt:q=L
 all_goals first
  | (
    have hse:=fun W=>Wv w.heap.size L q W hlt
    have Hlt:=hid hlt;clear hlt;go_still_tail 7,(by kernel_rfl)
    change wpList _ _ _ _ _ w1.drew;clear hse;go_wp2_with fail
    refine(Zf w.heap.size q _ rest w1.drew (by rw[Hlt.out];exact Hr1.out)).mono ?_;rintro e w2 ⟨rfl,hrow,hgr⟩;rw[show fA (List.replicate q 0) q (min (q-q) 8) rest=fA (List.replicate L 0) q (min (L-q) 8) rest by rw[<-Hlt.out]]at hrow;clear Hlt)
  | (
    have hlt2:q<L:=by omega
    have hsa:=fun W=>MB w.heap.size L q W hlt2 hLs
    go_still_tail 7,(by kernel_rfl)
    change wpList _ _ _ _ _ w1.drew;clear hsa;go_wp2_with fail
    refine(Ep w.heap.size q (L-q) _ rest (List.replicate L 0) w1.drew (by simp;omega) (by simpa using hLs) Hr1.out).mono ?_;rintro e w2 ⟨rfl,hrow,hgr⟩;clear hlt hlt2)
 all_goals
  have hrow2:=Dx.out w2 hrow;have hb2:Below w.heap.size w w2:=Hb1.out.drew.grown hgr (by have:=Hb1.out.size;simpa using this) (fun k e=>by injection e with e;omega);have d0':w2.cell? ⟨b,off,none⟩=some (.pointer p):=(hb2.cell (p:=⟨b,off,none⟩) (World.block_lt_of_cell? w _ H0.out)).trans H0.out;have hus:q=8*us.length:=by rw[Hw.out.1];exact Hq.out
  rw[show(q:Int)=((8*us.length:Nat):Int) by rw[hus]];rw[hus]at hrow2;have aoE:8*us.length<=L:=by omega
  have dL:=hid hrow2;have Hb2:=hid hb2;clear hrow2 hb2 hgr hrow Dx Hb1 d1 d2 H0 HW1 Hr1 Hke hqL aqm hus Hq HW;go_wp2;go_loopw [4,5] (fun i p' wr=>∃(rem:List Nat) (q':Option Addr),i=.int .i64 ((8*rem.length:Nat):Int)/\p'=.pointer q'/\Hid (Chain w q' rem)/\Hid (Row wr w.heap.size 5 (u8s (List.replicate (8*rem.length) 0++(Bm.bytesOf N L).drop (8*rem.length)))) /\
   Hid (Below w.heap.size w wr)/\Hid (eO rem=N%2^(64*rem.length))/\Hid (∀u∈rem,u<2^64)/\8*rem.length<=L) (fun i _ _=>(intOf i).toNat)
  case atStart=>exact⟨us,p,rfl,rfl,Hc,dL,Hb2,Hw.out.chain,Hw.out.2.2.1,aoE⟩
  case round=>
   obtain⟨rem,q',rfl,rfl,hch,hrw,hbl,hcv,ajc,hle⟩:=hrel;clear aoE Hb2 dL d0' Hc;rcases rem with _ | ⟨u,us'⟩
   ·obtain rfl:q'=none:=hch.out;have hfin:Row wr w.heap.size 5 (u8s (Bm.bytesOf N L)):=hrw.out;rw[HL.out]at hfin;have iy:=hid hfin;clear hfin hrw hle;go_wp2;go_ret;rw[HL.out];exact⟨_,rfl,Nat.le_refl _,iy.out,hbl.out⟩
   ·obtain⟨g1,q1,rfl,hr1,aiL⟩:=hch.out;obtain⟨r,hr⟩:∃r,r=8*us'.length:=⟨_,rfl⟩;have hg1:=hr1.lt;have c0:=(hbl.out.cell (p:=⟨g1,0,none⟩) hg1).trans (hr1.cell 0);have c1:=(hbl.out.cell (p:=⟨g1,1,none⟩) hg1).trans (hr1.cell 1);simp only[List.getElem?_cons_zero,List.getElem?_cons_succ]at c0 c1;have akG:=hid aiL;rw[List.length_cons,show((8*(us'.length+1):Nat):Int)=(r:Int)+8 by omega];rw[List.length_cons]at hrw hcv hle;have hrL:r<L:=by omega
    have hr8:r+8<=L:=by omega
    have Hr:=hid hr;have hsa:=fun W=>MB w.heap.size L r W hrL hLs
    have hhead:=Nw N u us' (fun x hx=>ajc.out x (List.mem_cons_of_mem _ hx)) hcv.out;have hcs:(List.replicate (8*(us'.length+1)) 0++(Bm.bytesOf N L).drop (8*(us'.length+1))).length=L:=by
     rw[List.length_append,List.length_replicate,List.length_drop,Bm.bytesOf_length];omega
    have hfl:∀w3,Row w3 w.heap.size 5 (u8s (fA (List.replicate (8*(us'.length+1)) 0++(Bm.bytesOf N L).drop (8*(us'.length+1))) r (min (L-r) 8) u)) ->
      Row w3 w.heap.size 5 (u8s (List.replicate (8*us'.length) 0++(Bm.bytesOf N L).drop (8*us'.length))):=fun w3 h3=>by
     have e:=Nr N L us'.length (by omega);rw[<-hhead.1,<-hr,show 8=min (L-r) 8 by omega]at e;rw[show min (L-r) 8=8 by omega]at h3;rw[show min (L-r) 8=8 by omega,hr]at e;rw[<-e,<-hr];exact h3
    have Hfl:=hid hfl;have Hcs:=hid hcs;have Hcv:=hid hhead.2;clear hr aiL hr1 hch hle hfl hcs hhead hcv;go_wp2;go_still_tail 7,(by kernel_rfl)
    change wpList _ _ _ _ _ wr.drew;clear hsa;go_wp2_with fail
    refine(Ep w.heap.size r (L-r) _ u _ wr.drew (by rw[Hcs.out];omega) (by rw[Hcs.out];exact hLs) hrw.out).mono ?_;rintro e w3 ⟨rfl,hrow3,anR⟩;have kg:=hid (Hfl.out w3 hrow3);have hb3:Below w.heap.size w w3:=hbl.out.drew.grown anR (by have:=hbl.out.size;simpa using this) (fun k e=>by injection e with e;omega);have c0':w3.cell? ⟨g1,0,none⟩=some (.pointer q1):=(hb3.cell (p:=⟨g1,0,none⟩) hg1).trans ((hbl.out.cell (p:=⟨g1,0,none⟩) hg1).symm.trans c0);have Hb3:=hid hb3;clear hb3 hrow3 anR c0 c1 hrw Hfl Hcs;go_wp2;go_roundw
    case rel=>exact⟨us',q1,by rw[Hr.out],rfl,akG,kg,Hb3,Hcv,fun x hx=>ajc.out x (List.mem_cons_of_mem _ hx),by have:=Hr.out;omega⟩
    case measure=>simp[intOf];omega
theorem qM(A:Option Addr)(c:Nat)(bs:List Nat)(w:World)(hbs:∀b∈bs,b<256)(hr:Reads w A (u8s bs)) :
  Calls prog 133 #[.slice A bs.length c] w fun e w'=>e=.returned (.pointer (some ⟨w.heap.size,0,none⟩))/\RS w' w.heap.size 0 bs 0/\Below w.heap.size w w':=by
 have dB:=bS w A c bs hbs hr;clear hbs hr;go_enter func133,ntmps133
 go_wp2;go_ret;have hrow:=Row.new w 235 [.string (strOf bs),.int .i64 0];exact⟨rfl,⟨hrow.cell 0,hrow.cell 1,hrow.free 1,hrow.lt⟩,(Below.refl _ _).alloc (Nat.le_refl _) _⟩
theorem MN(a:Addr)(m:Int)(w:World)(h:m<0\/32<m) :
  Calls prog 159 #[.pointer (some a),.int .i64 m] w fun e w'=>e=.returned (.tuple #[.int .u32 0,.bool false])/\w=w':=by
 rcases h with h | h
 ·go_enter func159,ntmps159
  go_wp2;go_ret2;exact⟨rfl,rfl⟩
 ·go_enter func159,ntmps159
  go_wp2;go_ret2;exact⟨rfl,rfl⟩
theorem rH(b off:Nat)(bs:List Nat)(pos m:Nat)(w:World)(hs:bs.length<=100000000)(hp:pos<=8*bs.length)(hm:m<=32)(Dq:8*bs.length-pos<m)(h:RS w b off bs pos) :
  Calls prog 159 #[.pointer (some ⟨b,off,none⟩),.int .i64 (m:Int)] w fun e w'=>e=.returned (.tuple #[.int .u32 0,.bool false])/\∃k,w'=w.drewN k:=by
 have hl:=vN b off bs pos w (by omega) hp h;have Hl:=hid hl;clear hl h;generalize 8*bs.length-pos=lft at Hl Dq;have hlt:(lft:Int)<(m:Int):=by omega
 go_enter func159,ntmps159
 go_wp2_with fail
 refine Hl.out.mono ?_;rintro e w' ⟨rfl,kk,rfl⟩;go_wp2;go_ret2;exact⟨rfl,_,rfl⟩
theorem afM(x b k:Nat)(hx:x<256^k)(hb:b<256)(hk:k<5):bits .or .u64 (x:Int) (IntKind.u64.wrap ((b:Int)*2^(8*k)))=((x+b*256^k:Nat):Int):=by
 have hp:256^k<=256^4:=Nat.pow_le_pow_right (by omega) (by omega);have h4:(256:Nat)^4=4294967296:=by decide
 rw[or_val _ _ _ (by omega)];have h1:=xI (8*k) x b (by rw[<-tH];exact hx);have h2:b*2^(8*k)<2^64:=by
  rw[<-tH];have:=Nat.mul_le_mul (show b<=255 by omega) hp;omega
 rw[Nat.mod_eq_of_lt h2,h1,tH]
theorem Xa(bs:List Nat)(f k:Nat)(hfk:f<=k)(hk:k<bs.length)(h5:k<f+5)(h:∀x∈bs,x<256) :
  bits .or .u64 ((aW ((bs.drop f).take (k-f)):Nat):Int) (IntKind.u64.wrap ((bs[k]:Int)*2^(8*(k-f))))=((aW ((bs.drop f).take (k+1-f)):Nat):Int):=by
 have hl:((bs.drop f).take (k-f)).length=k-f:=by rw[List.length_take,List.length_drop];omega
 have hlt:=lQ ((bs.drop f).take (k-f)) (fun x hx=>h x (List.mem_of_mem_drop (List.mem_of_mem_take hx)));rw[hl]at hlt;rw[afM _ _ _ hlt (h _ (List.getElem_mem hk)) (by omega)];have hg:k-f<(bs.drop f).length:=by rw[List.length_drop];omega
 have e:(bs.drop f)[k-f]=bs[k]:=by rw[List.getElem_drop];congr 1;omega
 rw[show k+1-f=(k-f)+1 by omega,List.take_succ_eq_append_getElem hg,rU,hl,e]
theorem agj{w:World}{b off pos:Nat}{bs:List Nat}(h:RS w b off bs pos)(kk m:Nat):RS ((w.setCell ⟨b,off+1,none⟩ (.int .i64 ((pos+m:Nat):Int))).drewN kk) b off bs (pos+m):=by
 have h1:RS (w.setCell ⟨b,off+1,none⟩ (.int .i64 ((pos+m:Nat):Int))) b off bs (pos+m):=by
  obtain⟨h0,h1,h2,h3⟩:=h;refine⟨?_,World.cell?_setCell_same _ _ _ h1,by simpa using h2,by simpa using h3⟩;rw[World.cell?_setCell_other _ _ _ _ (by intro e;injection e with _ e _;omega)];exact h0
 exact h1.drewN kk
theorem jV(b off:Nat)(bs:List Nat)(pos m:Nat)(w:World)(hs:bs.length<=100000000)(hbs:∀x∈bs,x<256)(hm:m<=32)(hle:pos+m<=8*bs.length)(h:RS w b off bs pos) :
  Calls prog 159 #[.pointer (some ⟨b,off,none⟩),.int .i64 (m:Int)] w fun e w'=>
   e=.returned (.tuple #[.int .u32 ((aW bs/2^pos%2^m:Nat):Int),.bool true])/\RS w' b off bs (pos+m)/\w.grownBy w' (some b):=by
 have hl:=vN b off bs pos w (by omega) (by omega) h;have Hl:=hid hl;have Hrs:=hid h;obtain⟨h0,h1,h2,_⟩:=h;have hlt:(m:Int)<=((8*bs.length-pos:Nat):Int):=by omega
 have hsz:=aA bs;have Hbs:=hid hbs;have hidx:∀(i:Nat) (W:World) (hi:i<bs.length),(Instr.index 9 (.string (strOf bs)) (.int .i64 (i:Int))).run prog W=.ok (.int .u8 ((bs[i]:Nat):Int)) W:=fun i W hi=>vL bs i W hi (hbs _ (List.getElem_mem hi))
 have Dl:=hid hidx;have Hsz:=hid hsz;clear hl hbs hidx hsz;generalize strOf bs=sb at h0 Dl Hsz;have hsb:sb.size<=100000000:=by rw[Hsz.out];exact hs
 generalize hlf:8*bs.length-pos=lft at Hl hlt;have Hlf:=hid hlf;clear hlf;go_enter func159,ntmps159
 go_wp2_with fail
 refine Hl.out.mono ?_;rintro e w' ⟨rfl,kk,rfl⟩;have hlt2:¬lft<m:=by omega
 clear Hl;obtain⟨f,hf⟩:∃f,f=pos/8:=⟨_,rfl⟩;obtain⟨t,ht⟩:∃t,t=f+min 5 (bs.length-f):=⟨_,rfl⟩;have hfs:(pos:Int)/8=(f:Int):=by omega
 have hts:min ((f:Int)+5) (sb.size:Int)=(t:Int):=by rw[Hsz.out];omega
 have htl:t<=bs.length:=by omega
 have aoA:t<=f+5:=by omega
 have hft:f<=t:=by omega
 have Hf:=hid hf;have Ht:=hid ht;have Hfs:=hid hfs;have Hts:=hid hts;clear hf ht hfs hts;go_wp2;rw[Hfs.out,Hts.out];go_loop [8,9] (fun v i=>∃k:Nat,f<=k/\k<=t/\i=.int .i64 (k:Int)/\v=.int .u64 ((aW ((bs.drop f).take (k-f)):Nat):Int)) (fun _ i=>t-(intOf i).toNat)
 case atStart=>exact⟨f,Nat.le_refl _,hft,rfl,by rw[Nat.sub_self];rfl⟩
 case round=>
  obtain⟨k,hfk,hkt,rfl,rfl⟩:=hrel;by_cases hk:k<t
  ·have hx:=Dl.out k;have hx2:=fun W=>hx W (by omega)
   have hb8:=Hbs.out bs[k] (List.getElem_mem (by omega));clear hx;have hstep:=Xa bs f k hfk (by omega) (by omega) Hbs.out;have fC:=hid hstep;clear hstep;generalize bs[k]=x at hx2 hb8 fC;go_wp2;rw[fC.out];go_round
   case rel=>exact⟨k+1,by omega,by omega,by go_num,rfl⟩
   case measure=>simp[intOf];omega
  ·obtain rfl:k=t:=by omega
   have hv:=WY bs Hbs.out pos m (k-f) hm hle (by have h3:=Ht.out;have h4:=Hf.out;omega);rw[<-Hf.out]at hv;have hy:aW ((bs.drop f).take (k-f))<2^40:=by
    have h5:=lQ ((bs.drop f).take (k-f)) (fun x hx=>Hbs.out x (List.mem_of_mem_drop (List.mem_of_mem_take hx)));have h6:256^((bs.drop f).take (k-f)).length<=256^5:=Nat.pow_le_pow_right (by omega) (by rw[List.length_take];omega);have h7:(256:Nat)^5=2^40:=by decide
    omega
   generalize aW ((bs.drop f).take (k-f))=y at hv hy;have hd:(y:Int)/2^(pos%8)=((y/2^(pos%8):Nat):Int):=by simp
   have hdl:=Nat.div_le_self y (2^(pos%8));have hz:∀z,z=y/2^(pos%8)->z%2^m=aW bs/2^pos%2^m:=fun z hz=>by rw[hz];exact hv
   have h40:y/2^(pos%8)<2^64:=by
    have:(2:Nat)^40<=2^64:=Nat.pow_le_pow_right (by omega) (by omega);omega
   have aqh:aW bs/2^pos%2^m<4294967296:=Nat.lt_of_lt_of_le (Nat.mod_lt _ (Nat.two_pow_pos m)) (Nat.pow_le_pow_right (n:=2) (j:=32) (by omega) hm);have Hd:=hid hd;have Hv:=hid hv;clear hv hd hz hdl hy;go_wp2_with fail
   rw[Hd.out];refine(sZ (y/2^(pos%8)) m _ h40 (by omega)).mono ?_;rintro e w' ⟨rfl,rfl⟩;rw[Hv.out];have ajm:(pos:Int)+(m:Int)=((pos+m:Nat):Int):=by omega
   have Hpm:=hid ajm;clear ajm h40;generalize hzz:aW bs/2^pos%2^m=z at aqh;have Hzz:=hid hzz;clear hzz;go_wp2;go_ret2;rw[Hpm.out,Hzz.out];exact⟨rfl,agj Hrs.out kk m,aB (bL (aj _ _) _) _ _⟩
theorem ajA(A:Option Addr)(n c:Nat)(bs:List Nat)(w:World)(hn:bs.length=n)(hbs:∀b∈bs,b<256)(hr:Reads w A (u8s bs)) :
  Calls prog 133 #[.slice A n c] w fun e w'=>e=.returned (.pointer (some ⟨w.heap.size,0,none⟩))/\RS w' w.heap.size 0 bs 0/\Below w.heap.size w w':=by
 subst hn;exact qM A c bs w hbs hr
theorem WS.LB{w:World}{b off N n:Nat}(h:WS w b off N n):w.cell? ⟨b,off+2,none⟩=some (.int .i64 (n:Int)):=by
 obtain⟨p,rest,us,h0,h1,h2,_⟩:=h;exact h2
def TS(w:World)(B b:Nat)(bs:List Nat)(left:Nat):Prop:=∃g cap,
 w.cell? ⟨b,0,none⟩=some (.slice (some ⟨g,0,none⟩) bs.length cap)/\w.cell? ⟨b,1,none⟩=some (.int .i64 (left:Int))/\w.frozen? ⟨b,1,none⟩=false /\
 B<=b/\b<w.heap.size/\B<=g/\g<w.heap.size/\g≠b/\bs.length<=cap/\cap<=maxLen/\Reads w (some ⟨g,0,none⟩) (u8s bs)
theorem TS.keep{w w':World}{B b left:Nat}{bs:List Nat}{row:Option Nat}(h:TS w B b bs left)(hg:w.grownBy w' row)(hr:∀r,row=some r->r<B):TS w' B b bs left:=by
 obtain⟨g,cap,h0,h1,h2,h3,h4,h5,h6,h7,h8,h9,h10⟩:=h;have hl:=hg.block b h4 (fun e=>by have:=hr b e.symm;omega);have hl2:=hg.block g h6 (fun e=>by have:=hr g e.symm;omega);refine⟨g,cap,(World.cell?_of_block hl).trans h0,(World.cell?_of_block hl).trans h1,(World.frozen?_of_block hl).trans h2,h3,Nat.lt_of_lt_of_le h4 hg.size,h5,Nat.lt_of_lt_of_le h6 hg.size,h7,h8,h9,fun hne=>?_⟩;obtain⟨g',off,e,hc⟩:=h10 hne;injection e with e
 injection e with e1 e2
 subst e1 e2;exact⟨_,_,rfl,fun j hj=>(World.cell?_of_block (a:=⟨g,0+j,none⟩) hl2).trans (hc j hj)⟩
theorem Fx{w:World}{g b i:Nat}{xs:List Value}{u:Value}(h:Reads w (some ⟨g,0,none⟩) xs)(hne:g≠b):Reads (w.setCell ⟨b,i,none⟩ u) (some ⟨g,0,none⟩) xs:=fun hx=>by
 obtain⟨g',off,e,hc⟩:=h hx;injection e with e
 injection e with e1 e2
 subst e1 e2;exact⟨_,_,rfl,fun j hj=>by rw[World.cell?_setCell_other _ _ _ _ (by intro e;injection e with e _ _;exact hne e.symm)];exact hc j hj⟩
theorem TS.step{w:World}{B b left:Nat}{bs:List Nat}(h:TS w B b bs left)(left':Nat):TS (w.setCell ⟨b,1,none⟩ (.int .i64 (left':Int))) B b bs left':=by
 obtain⟨g,cap,h0,h1,h2,h3,h4,h5,h6,h7,h8,h9,h10⟩:=h;refine⟨g,cap,?_,World.cell?_setCell_same _ _ _ h1,by simpa using h2,h3,by simpa using h4,h5,by simpa using h6,h7,h8,h9,Fx h10 h7⟩;rw[World.cell?_setCell_other _ _ _ _ (by intro e;injection e with _ e _;omega)];exact h0
theorem Nk(b:Nat)(n:Int)(w:World)(h:w.cell? ⟨b,1,none⟩=some (.int .i64 n)) :
  Calls prog 205 #[.pointer (some ⟨b,0,none⟩)] w fun e w'=>e=.returned (.int .i64 n)/\w=w':=by
 go_enter func205,ntmps205
 go_wp2;go_ret;exact⟨rfl,rfl⟩
theorem RL(B b left:Nat)(bs:List Nat)(w:World)(h:TS w B b bs left) :
  Calls prog 205 #[.pointer (some ⟨b,0,none⟩)] w fun e w'=>e=.returned (.int .i64 (left:Int))/\w=w':=by
 obtain⟨g,cap,_,h1,_⟩:=h;exact Nk b _ w h1
theorem aek(w:World)(n:Int):Calls prog 203 #[.pointer none,.int .i64 n] w fun e w'=>e=.returned (.tuple #[.int .u32 0,.bool false])/\w=w':=by
 go_enter func203,ntmps203
 go_wp2;go_ret2;exact⟨rfl,rfl⟩
theorem RY(B b left:Nat)(bs:List Nat)(m:Nat)(w:World)(hm:m<=32)(Dq:left<m)(h:TS w B b bs left) :
  Calls prog 203 #[.pointer (some ⟨b,0,none⟩),.int .i64 (m:Int)] w fun e w'=>e=.returned (.tuple #[.int .u32 0,.bool false])/\w=w':=by
 obtain⟨g,cap,_,h1,_⟩:=h;have hlt:(left:Int)<(m:Int):=by omega
 go_enter func203,ntmps203
 go_wp2;go_ret2;exact⟨rfl,rfl⟩
theorem Ww(g L c f t:Nat)(W:World)(hf:f<t)(ht:t<=L)(hc:L<=c) :
  (Instr.slice 60 (.slice (some ⟨g,0,none⟩) L c) (some (.int .i64 (f:Int))) (some (.int .i64 (t:Int))) none).run prog W=.ok (.slice (some ⟨g,f,none⟩) (t-f) (c-f)) W:=by
 have h1:¬c=f:=by omega
 have h2:f<=t:=by omega
 have h3:t<=c:=by omega
 have h4:f<=c:=by omega
 go_simp
theorem VJ{w:World}{g f t:Nat}{bs:List Nat}(h:Reads w (some ⟨g,0,none⟩) (u8s bs))(hf:f<t)(ht:t<=bs.length):Reads w (some ⟨g,f,none⟩) (u8s ((bs.drop f).take (t-f))):=fun _=>by
 obtain⟨g',off,e,hc⟩:=h (by intro e;have:=aO bs;rw[e]at this;simp at this;omega);injection e with e
 injection e with e1 e2
 subst e1 e2;refine⟨g,f,rfl,fun j hj=>?_⟩;have hj':j<t-f:=by simp[u8s]at hj;omega
 have hc2:=hc (f+j) (by rw[aO];omega);rw[Nat.zero_add]at hc2;have hl:j<((bs.drop f).take (t-f)).length:=by simp;omega
 rw[hc2,bD bs (f+j) (by omega),bD _ j hl];simp
theorem RZ(B b left:Nat)(bs:List Nat)(m:Nat)(w:World)(hs:bs.length<=100000000)(hbs:∀x∈bs,x<256)(hm:m<=32)(hle:m<=left)(hlb:left<8*bs.length)(h:TS w B b bs left) :
  Calls prog 203 #[.pointer (some ⟨b,0,none⟩),.int .i64 (m:Int)] w fun e w'=>
   e=.returned (.tuple #[.int .u32 ((aW bs/2^(left-m)%2^m:Nat):Int),.bool true])/\TS w' B b bs (left-m)/\w.grownBy w' (some b)/\w'.cell? ⟨b,0,none⟩=w.cell? ⟨b,0,none⟩:=by
 have Hst:=hid (h.step (left-m));obtain⟨g,cap,h0,h1,h2,h3,h4,h5,h6,h7,h8,h9,h10⟩:=h;have Hbw:=hid h4;obtain⟨at',hat⟩:∃a,a=left-m:=⟨_,rfl⟩;obtain⟨f,hf⟩:∃f,f=at'/8:=⟨_,rfl⟩;obtain⟨r8,hr8⟩:∃r,r=at'%8:=⟨_,rfl⟩;obtain⟨t,ht⟩:∃t,t=f+min 5 (bs.length-f):=⟨_,rfl⟩;have hfl:f<bs.length:=by omega
 have hft:f<t:=by omega
 have htl:t<=bs.length:=by omega
 have arq:r8<8:=by omega
 have aqR:at'<=800000000:=by omega
 have hfb:f<=100000000:=by omega
 have ha1:(left:Int)-(m:Int)=(at':Int):=by omega
 have ha2:(at':Int)/8=(f:Int):=by omega
 have ha3:min ((f:Int)+5) (bs.length:Int)=(t:Int):=by omega
 have ha4:(at':Int)%8=(r8:Int):=by omega
 have hlen:((bs.drop f).take (t-f)).length=t-f:=by simp;omega
 have hsl:∀W:World,(Instr.slice 60 (.slice (some ⟨g,0,none⟩) bs.length cap) (some (.int .i64 (f:Int))) (some (.int .i64 (t:Int))) none).run prog W=.ok (.slice (some ⟨g,f,none⟩) (t-f) (cap-f)) W:=
  fun W=>Ww g bs.length cap f t W hft htl h8
 have hsub:∀x∈(bs.drop f).take (t-f),x<256:=fun x hx=>hbs x (List.mem_of_mem_drop (List.mem_of_mem_take hx))
 have hval:=WY bs hbs at' m (t-f) hm (by omega) (by omega);rw[<-hf,<-hr8,hat]at hval;have hfit:r8+m<=8*(t-f):=by omega
 have hst:TS (w.setCell ⟨b,1,none⟩ (.int .i64 (at':Int))) B b bs at':=by rw[hat];exact Hst.out
 have hrd:=VJ (Fx (b:=b) (i:=1) (u:=.int .i64 (at':Int)) h10 h7) hft htl;have hd0:(w.setCell ⟨b,1,none⟩ (.int .i64 (at':Int))).cell? ⟨b,1,none⟩=some (.int .i64 (at':Int)):=World.cell?_setCell_same _ _ _ h1;have hbl:b<(w.setCell ⟨b,1,none⟩ (.int .i64 (at':Int))).heap.size:=by simpa using h4
 have Hrd:=hid hrd;have Hts:=hid hst;have Ha1:=hid ha1;have Ha2:=hid ha2;have Ha3:=hid ha3;have Ha4:=hid ha4;have Hlen:=hid hlen;have akY:=hid hsub;have apC:=hid hval;have Hd0:=hid hd0;clear Hst hst hrd ha1 ha2 ha3 ha4 hlen hsub hval hbs h5 h6 h7 h9 h10 hf hr8 ht hd0;go_enter func203,ntmps203
 go_upto_region 4 with fail
 rw[Ha1.out];have Hat:=hid hat;clear hat;go_upto_region 6 with fail
 rw[Ha2.out,Ha3.out];go_wp2_with fail
 refine(ajA (some ⟨g,f,none⟩) (t-f) (cap-f) _ _ Hlen.out akY.out Hrd.out).mono ?_;rintro e w2 ⟨rfl,QC,hb2⟩;obtain⟨nb,hnb⟩:∃x,x=(w.setCell ⟨b,1,none⟩ (.int .i64 (at':Int))).heap.size:=⟨_,rfl⟩;rw[<-hnb]at QC ⊢;have d1:w2.cell? ⟨b,1,none⟩=some (.int .i64 (at':Int)):=(hb2.cell (p:=⟨b,1,none⟩) hbl).trans Hd0.out;have acG:=hid QC;replace hb2:Below nb (w.setCell ⟨b,1,none⟩ (.int .i64 (at':Int))) w2:=by rw[hnb];exact hb2
 have hs2:=hb2.size;rw[<-hnb]at hs2;have Hb2:=hid hb2;have hbn:b<nb:=by rw[hnb];exact hbl
 have hsn:w.heap.size<=nb:=by rw[hnb];simp
 have Hnb:=hid hnb;clear hb2 QC hsl hnb hbl Hd0;go_wp2_with fail
 rw[Ha4.out];refine(jV nb 0 _ 0 r8 w2 (by rw[Hlen.out];omega) akY.out (by omega) (by rw[Hlen.out];omega) acG.out).mono ?_;rintro e w3 ⟨rfl,QD,hg3⟩;generalize aW (List.take (t-f) (List.drop f bs))/2^0%2^r8=junk;have adQ:=hid QD;have Hb3:=hid (Hb2.out.trans (below_grown hg3 (Nat.le_refl _) hs2));have hs3:=hg3.size;clear QD hg3 Hb2 acG d1;go_wp2_with fail
 refine(jV nb 0 _ (0+r8) m w3 (by rw[Hlen.out];omega) akY.out hm (by rw[Hlen.out];omega) adQ.out).mono ?_;rintro e w4 ⟨rfl,_,hg4⟩;rw[Nat.zero_add,apC.out];have Hb4:=hid (Hb3.out.trans (below_grown hg4 (Nat.le_refl _) (by omega)));clear hg4 Hb3 adQ;generalize hy:aW bs/2^(left-m)%2^m=y;have Hy:=hid hy;clear hy;go_wp2;go_ret2;have hb4:=Hb4.out;rw[Hnb.out]at hb4;rw[Hy.out];refine⟨rfl,?_,(aB (aj w (some b)) 1 (.int .i64 (at':Int))).trans (ak hb4 (some b)),?_⟩
 ·rw[<-Hat.out];exact Hts.out.keep (ak hb4 none) (by simp)
 ·rw[hb4.cell (p:=⟨b,0,none⟩) (by simpa using Hbw.out),World.cell?_setCell_other _ _ _ _ (by intro e;injection e with _ e _;omega)]
theorem kL{w w':World}{A:Option Addr}{xs:List Value}{b:Nat}(h:Reads w A xs)(hA:∀a,A=some a->a.block≠b)(hg:w.grownBy w' (some b)):Reads w' A xs:=fun hne=>by
 obtain⟨g,off,rfl,hc⟩:=h hne;have hgb:g≠b:=hA _ rfl;refine⟨g,off,rfl,fun j hj=>?_⟩;have h1:=hc j hj;have hlt:j<xs.length:=hj;rw[List.getElem?_eq_getElem hlt]at h1 ⊢;exact hg.cell h1 (fun e=>by injection e with e;exact hgb e)
theorem dZ(W:World)(p:Addr)(u:Value):W.grownBy (W.setCell p u) (some p.block):=⟨rfl,rfl,rfl,by simp[World.setCell],fun i _ hne=>Below.heap_setCell W p u i (fun e=>hne (by rw[e]))⟩
def ali:Prop:=(∀(w:World) (v:Nat),v<=65535->Calls prog 92 #[.int .i64 (v:Int)] w fun e w'=>e=.returned (.tuple #[.int .u8 (kX v:Int),.int .i64 (kI v:Int),.int .i64 (gG v:Int),.bool true])/\Below w.heap.size w w') /\
 ∀(w:World) (v:Int),-9223372036854775808<=v/\v<=9223372036854775807->(v<0\/65535<v)->Calls prog 92 #[.int .i64 v] w fun e w'=>e=.returned (.tuple #[.int .u8 0,.int .i64 0,.int .i64 0,.bool false])/\Below w.heap.size w w'
def aij:Prop:=∀(w:World) (c m:Nat),c<256->m<4294967296->Calls prog 168 #[.int .u8 (c:Int),.int .u32 (m:Int)] w fun e w'=>e=.returned (match iJ c m with | some g=>.tuple #[.int .i64 (g:Int),.bool true] | none=>.tuple #[.int .i64 0,.bool false])/\Below w.heap.size w w'
def aii:Prop:=∀w:World,Calls prog 90 #[] w fun e w'=>e=.returned (.agg #[.int .i64 1,.int .i64 2,.int .i64 4])/\Below w.heap.size w w'
def mO(x:Int):Prop:=-9223372036854775808<=x/\x<=9223372036854775807
def apF:Prop:=∀(w:World) (a b c x:Int),mO a->mO b->mO c->mO x->Calls prog 114 #[.agg #[.int .i64 a,.int .i64 b,.int .i64 c],.int .i64 x] w fun e w'=>
 (0<=oH a b c x->e=.returned (.tuple #[.int .i64 (oH a b c x),.agg #[.int .i64 (oV a b c x).1,.int .i64 (oV a b c x).2.1,.int .i64 (oV a b c x).2.2],.bool true])) /\
 (oH a b c x<0->e=.returned (.tuple #[.int .i64 0,.agg #[.int .i64 a,.int .i64 b,.int .i64 c],.bool false]))/\Below w.heap.size w w'
def apG:Prop:=∀(w:World) (a b c n:Int),mO a->mO b->mO c->mO n->Calls prog 169 #[.agg #[.int .i64 a,.int .i64 b,.int .i64 c],.int .i64 n] w fun e w'=>
 (∀x,yY a b c n=some x->e=.returned (.tuple #[.int .i64 x,.agg #[.int .i64 (oV a b c x).1,.int .i64 (oV a b c x).2.1,.int .i64 (oV a b c x).2.2],.bool true])) /\
 (yY a b c n=none->e=.returned (.tuple #[.int .i64 0,.agg #[.int .i64 a,.int .i64 b,.int .i64 c],.bool false]))/\Below w.heap.size w w'
theorem Wy(l:List Nat)(w:World)(hl:l.length<=1000000000)(hlt:∀x∈l,x<256) :
  Calls prog 20 #[.string (strOf l)] w fun e w'=>e=.returned (.int .u64 (Bm.sumOf l:Int))/\Below w.heap.size w w':=by
 have hadd:=fun W=>abj 7640891576956012808 0 l W (by decide) (by decide) hl hlt
 have hsum:=fun W=>aby (ku 7640891576956012808 l) l.length W
 have hr:ahs (ku 7640891576956012808 l) l.length=Bm.sumOf l:=rfl;rw[show(0+l.length)%18446744073709551616=l.length by omega]at hadd;rw[hr]at hsum;have ajV:=hid hadd;have adV:=hid hsum;clear hadd hsum hr hlt;generalize Bm.sumOf l=r at adV ⊢;generalize ku 7640891576956012808 l=y at ajV adV;generalize l.length=n at ajV adV;generalize strOf l=s at ajV ⊢;go_enter func20,ntmps20
 go_wp2_with fail
 refine(abx w).mono ?_;rintro e w1 ⟨rfl,hb1⟩;have Hb1:=hid hb1;clear hb1;go_wp2_with fail
 refine(ajV.out w1).mono ?_;rintro e w2 ⟨rfl,hb2⟩;have Hb2:=hid (Hb1.out.trans (hb2.mono Hb1.out.size));clear hb2 Hb1;go_wp2_with fail
 refine(adV.out w2).mono ?_;rintro e w3 ⟨rfl,hb3⟩;have Hb3:=hid (Hb2.out.trans (hb3.mono Hb2.out.size));clear hb3 Hb2;go_wp2;go_ret;exact⟨rfl,Hb3.out⟩
end Go.Proofs.YtaebnkeddcbmkaaGreat
