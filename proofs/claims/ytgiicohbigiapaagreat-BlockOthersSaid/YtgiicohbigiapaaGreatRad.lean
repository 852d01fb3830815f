/- Contracts, and what they rest on. Conditions: the theorems' premises. -/
import Derived.Test.YtgiicohbigiapaaGreatRab
import Derived.Lib.Hide
import Derived.BigQuiet
import Derived.Laws.AppendOwnNone
import Derived.Deep.AppendSrc
set_option maxHeartbeats 4000000
set_option maxRecDepth 100000
open Go.Lib(hid)
open Go.Proofs.Tryz Go.Proofs.YtgiicohbigiapaaGreat.Bm
namespace Go.Proofs.YtgiicohbigiapaaGreat
open Go.RowKit
theorem nN(n:Nat)(h:n<2^64):IntKind.u64.wrap (n:Int)=(n:Int):=by
 have:IntKind.u64.wrap (n:Int)=(n:Int)%18446744073709551616:=by simp[IntKind.wrap,IntKind.bits,IntKind.signed]
 rw[this];omega
theorem or_val(rest x a:Nat)(hr:rest<2^64):bits .or .u64 (rest:Int) (IntKind.u64.wrap ((x:Int)*2^a))=((rest ||| x*2^a%2^64:Nat):Int):=by
 have e:(x:Int)*2^a=((x*2^a:Nat):Int):=by simp
 have e2:IntKind.u64.wrap ((x*2^a:Nat):Int)=((x*2^a%2^64:Nat):Int):=by
  have:IntKind.u64.wrap ((x*2^a:Nat):Int)=((x*2^a:Nat):Int)%18446744073709551616:=by simp[IntKind.wrap,IntKind.bits,IntKind.signed]
  rw[this];omega
 rw[e,e2,u64_or_nat _ _ hr (by exact Nat.mod_lt _ (by decide))]
theorem Zw(v m:Nat):(v:Int)%2^m=((v%2^m:Nat):Int):=by simp
theorem fT{w:World}{A:Option Addr}{l:List Nat}(h:Reads w A (u8s l))(hne:l≠[]):∃g off,A=some ⟨g,off,none⟩∧∀j (hj:j<l.length),w.cell? ⟨g,off+j,none⟩=some (.int .u8 (l[j]:Int)):=by
 obtain⟨g,off,e,hc⟩:=h (by simpa [u8s]using hne);exact⟨g,off,e,fun j hj=>by rw[hc j (by simpa [u8s]using hj),bD l j hj]⟩
theorem Ba{w:World}{base:Nat}{e:TypeId}{v:Value}{n:Nat}{xs:List Value}(h:w.ownsRow base e 1 v n xs)(hn:0<n):∃g cap,v=.slice (some ⟨g,0,none⟩) n cap∧base≤g∧g<w.heap.size:=by
 rcases h.2 with⟨_,h0⟩ | ⟨g,cap,cur,hv,hb,hh,_⟩
 ·omega
 ·refine⟨g,cap,hv,hb,?_⟩;rcases Nat.lt_or_ge g w.heap.size with h1 | h1
  ·exact h1
  ·rw[Array.getElem?_eq_none h1]at hh;cases hh
theorem own_below{w w':World}{base:Nat}{e:TypeId}{v:Value}{n:Nat}{xs:List Value}(h:w.ownsRow base e 1 v n xs)(hb:Below w.heap.size w w'):w'.ownsRow base e 1 v n xs:=
 h.kept (row:=none) (ak hb none) (by cases v.ownBlock<;>simp)
theorem gZ(g j:Nat):((⟨g,0,none⟩:Addr).add j)=⟨g,j,none⟩:=by
 unfold Addr.add;split<;>simp_all
theorem dM{w:World}{base:Nat}{e:TypeId}{v:Value}{n:Nat}{xs:List Value}(h:w.ownsRow base e 1 v n xs):∃A c,v=.slice A n c∧Reads w A xs∧(∀a,A=some a→base≤a.block∧a.block<w.heap.size∧∃cs fz,w.heap[a.block]?=some (.cells cs e fz)):=by
 rcases Nat.eq_zero_or_pos n with h0 | h0
 ·subst h0;have hl:xs=[]:=List.eq_nil_of_length_eq_zero (by simpa using h.1);subst hl;rcases h.2 with⟨hv,_⟩ | ⟨g,cap,cur,hv,hb,hh,_⟩
  ·exact⟨none,0,hv,fun h=>absurd rfl h,fun a e=>by cases e⟩
  ·refine⟨some ⟨g,0,none⟩,cap,hv,fun h=>absurd rfl h,fun a e=>?_⟩;injection e with e
   subst e;refine⟨hb,?_,_,_,hh⟩;rcases Nat.lt_or_ge g w.heap.size with h1 | h1
   ·exact h1
   ·rw[Array.getElem?_eq_none h1]at hh;cases hh
 ·rcases h.2 with⟨_,h1⟩ | ⟨g,cap,cur,hv,hb,hh,h3⟩
  ·omega
  ·refine⟨some ⟨g,0,none⟩,cap,hv,fun _=>⟨g,0,rfl,fun j hj=>?_⟩,fun a e=>?_⟩
   ·have hc:=h.cells (g:=g) (by rw[hv];rfl) j (xs[j]) (List.getElem?_eq_getElem hj);rw[gZ]at hc;rw[Nat.zero_add,hc,List.getElem?_eq_getElem hj]
   ·injection e with e
    subst e;refine⟨hb,?_,_,_,hh⟩;rcases Nat.lt_or_ge g w.heap.size with h1 | h1
    ·exact h1
    ·rw[Array.getElem?_eq_none h1]at hh;cases hh
theorem Iw(v k:Nat):(v:Int)/2^(8*k)%256=((v/256^k%256:Nat):Int):=by rw[rO];simp
theorem aJ{w w':World}(h:w.grownBy w' none):Below w.heap.size w w':=⟨h.os,h.tape,h.output,h.size,fun k hk=>h.block k hk (by simp)⟩
theorem bR{w:World}{g:Nat}{t:TypeId}{cs:List Value}(h:Row w g t cs):Reads w (some ⟨g,0,none⟩) cs:=fun _=>⟨g,0,rfl,fun j _=>by rw[Nat.zero_add];exact h.cell j⟩
theorem Ry{w:World}{base g n cap:Nat}{e:TypeId}{xs:List Value}(h:w.ownsRow base e 1 (.slice (some ⟨g,0,none⟩) n cap) n xs):n≤cap∧cap≤maxLen:=by
 rcases h.2 with⟨hv,_⟩ | ⟨g',cap',cur,hv,hb,hh,h1,h2,_⟩
 ·cases hv
 ·injection hv with _ _ e3
  subst e3;exact⟨h1,h2⟩
theorem Gq{w:World}{g:Nat}{xs:List Value}(h:Reads w (some ⟨g,0,none⟩) xs)(hg:g<w.heap.size)(o:Obj):Reads (w.alloc o) (some ⟨g,0,none⟩) xs:=fun hne=>by
 obtain⟨g',off,e,hc⟩:=h hne;injection e with e
 injection e with e1 e2
 subst e1 e2;exact⟨_,_,rfl,fun j hj=>by rw[World.cell?_alloc_lt _ _ _ (by exact hg)];exact hc j hj⟩
theorem Ms{w:World}{g off:Nat}{xs:List Value}(h:Reads w (some ⟨g,off,none⟩) xs):∀j u,xs[j]?=some u→w.cell? ((⟨g,off,none⟩:Addr).add j)=some u:=by
 intro j u hj;have hjl:j<xs.length:=by
  rcases Nat.lt_or_ge j xs.length with h1 | h1
  ·exact h1
  ·rw[List.getElem?_eq_none h1]at hj;cases hj
 obtain⟨g',off',e,hc⟩:=h (by intro e;rw[e]at hjl;simp at hjl);injection e with e
 injection e with e1 e2
 subst e1 e2;have e:((⟨g,off,none⟩:Addr).add j)=⟨g,off+j,none⟩:=by unfold Addr.add;split<;>simp_all
 rw[e,hc j hjl,hj]
theorem KD:∀x:Nat,x<2^64→Lib.bitLen x=Bm.wid x:=by
 intro x;induction x using Nat.strongRecOn with
 | ind x ih=>
  intro hx;rcases Nat.eq_zero_or_pos x with h | h
  ·subst h;rfl
  ·rw[Lib.bitLen_half x (by omega) hx,ih (x/2) (by omega) (by omega)];rcases Nat.eq_zero_or_pos (x/2)with h1 | h1
   ·rw[h1,show x=1 by omega,zQ 1 0 (by simp) (by simp)];rfl
   ·have h2:=Nt (x/2) h1 (x%2) (by omega);rw[show 2*(x/2)+x%2=x by omega]at h2;omega
theorem jc:(prog.info? 5).map (fun i=>(i.zero,i.size,i.bytes))=some (some (.int .u8 0),1,1):=by kernel_rfl
theorem nI{w:World}{base g n:Nat}(h:w.ownsRow base 5 1 (.slice (some ⟨g,0,none⟩) n n) n (madeCells #[Value.int .u8 0] n).toList):Row w g 5 (u8s (List.replicate n 0)):=by
 rcases h.2 with⟨hv,_⟩ | ⟨g',cap,cur,hv,hb,hh,h1,h2,h3,h4⟩
 ·cases hv
 ·injection hv with e1 e2 e3
  injection e1 with e1
  injection e1 with e1
  subst e1 e3;have e:cur.toList=u8s (List.replicate n 0):=by
   rw[List.take_of_length_le (by rw[Array.length_toList];omega)]at h4;rw[h4,toList_madeCells_one];simp only[u8s,List.map_replicate];rfl
  unfold Row;rw[←e,Array.toArray_toList];exact hh
theorem bP(w:World)(A:Option Addr)(c:Nat)(bs:List Nat)(hbs:∀b∈bs,b<256)(hr:Reads w A (u8s bs)) :
  (convert 87 9 (.slice A bs.length c)).run prog w=.ok (.string (strOf bs)) w:=by
 have key:∀a:Addr,(∀j (hj:j<bs.length),w.cell? (a.add j)=some (.int .u8 (bs[j]:Int)))→(convert 87 9 (.slice (some a) bs.length c)).run prog w=.ok (.string (strOf bs)) w:=by
  intro a ha;have h:=run_convert_bytes_back (P:=prog) w 87 9 5 a c (bs.map UInt8.ofNat) underlying87 underlying5 underlying9 (fun j hj=>by
   have hj':j<bs.length:=by simpa using hj
   have hlt:=hbs bs[j] (List.getElem_mem hj');rw[ha j hj',List.getElem_map,UInt8.toNat_ofNat_of_lt' hlt])
  rw[List.length_map]at h;exact h
 rcases bs with _ | ⟨b,bs⟩
 ·rcases A with _ | a
  ·exact run_convert_bytes_nil w 87 5 underlying87 underlying5 0 c 9 underlying9
  ·exact key a (fun j hj=>absurd hj (by simp))
 ·obtain⟨g,off,rfl,hc⟩:=fT hr (by simp);refine key _ (fun j hj=>?_);have e:((⟨g,off,none⟩:Addr).add j)=⟨g,off+j,none⟩:=by unfold Addr.add;split<;>simp_all
  rw[e];exact hc j hj
theorem jD(bs:List Nat)(i:Nat)(W:World)(hi:i<bs.length)(hlt:bs[i]<256):(Instr.index 9 (.string (strOf bs)) (.int .i64 (i:Int))).run prog W=.ok (.int .u8 ((bs[i]:Nat):Int)) W:=by
 have hs:=ay bs;rw[run_index_string W 9 (strOf bs) .i64 (i:Int) underlying9,dif_pos ⟨by omega,by omega⟩];have e:(strOf bs)[i]'(by omega)=UInt8.ofNat bs[i]:=by
  rw[ByteArray.getElem_eq_getElem_data];simp[strOf]
 simp only[Int.toNat_natCast,e];rw[UInt8.toNat_ofNat_of_lt' hlt]
theorem zu{w:World}{base g:Nat}{l:List Nat}(h:Row w g 5 (u8s l))(hb:base≤g)(hm:l.length≤1000000000):w.ownsRow base 5 1 (.slice (some ⟨g,0,none⟩) l.length l.length) l.length (u8s l):=
 ⟨by rw[aO,Nat.mul_one],.inr ⟨g,l.length,(u8s l).toArray,rfl,hb,h,Nat.le_refl _,by unfold maxLen;omega,by simp[aO],by rw[List.take_of_length_le (by simp[aO])]⟩⟩
namespace Bm
def Rh(h b:Nat):Nat:=(h ^^^ b)*11400714819323198485%18446744073709551616
def yu(h b:Nat):Nat:=Rh h b ^^^ Rh h b/536870912
def Ri(h n:Nat):Nat:=(h+n)%18446744073709551616*13787848793156543929%18446744073709551616
def acP(h n:Nat):Nat:=Ri h n ^^^ Ri h n/4294967296
def H0:Nat:=7640891576956012808
def iJ(h:Nat)(l:List Nat):Nat:=l.foldl yu h
theorem afT{a b:Nat}(ha:a<18446744073709551616)(hb:b<18446744073709551616):a ^^^ b<18446744073709551616:=Nat.xor_lt_two_pow (n:=64) (by omega) (by omega)
theorem vV(h b:Nat):Rh h b<18446744073709551616:=Nat.mod_lt _ (by decide)
theorem XZ(h b:Nat):yu h b<18446744073709551616:=afT (vV h b) (Nat.lt_of_le_of_lt (Nat.div_le_self _ _) (vV h b))
theorem vW(h n:Nat):Ri h n<18446744073709551616:=Nat.mod_lt _ (by decide)
theorem acQ(h n:Nat):acP h n<18446744073709551616:=afT (vW h n) (Nat.lt_of_le_of_lt (Nat.div_le_self _ _) (vW h n))
theorem agx:H0<18446744073709551616:=by decide
theorem IU(h:Nat)(l:List Nat)(hh:h<18446744073709551616):iJ h l<18446744073709551616:=by
 induction l generalizing h with
 | nil=>exact hh
 | cons b l ih=>exact ih _ (XZ h b)
theorem Ld(h:Nat)(l:List Nat)(b:Nat):iJ h (l++[b])=yu (iJ h l) b:=by
 unfold iJ;rw[List.foldl_append,List.foldl_cons,List.foldl_nil]
theorem rz(h:Nat)(l:List Nat)(k:Nat)(hk:k<l.length):iJ h (l.take (k+1))=yu (iJ h (l.take k)) l[k]:=by
 rw[List.take_succ_eq_append_getElem hk,Ld]
def sumOf(l:List Nat):Nat:=acP (iJ H0 l) l.length
theorem Bp(l:List Nat):sumOf l<18446744073709551616:=acQ _ _
end Bm
theorem YE(a b:Nat)(ha:a<18446744073709551616)(hb:b<18446744073709551616):bits .xor .u64 (a:Int) (b:Int)=((a ^^^ b:Nat):Int):=u64_xor_nat a b ha hb
theorem ZH(h b:Nat)(hh:h<18446744073709551616)(hb:b<256):IntKind.u64.wrap (bits .xor .u64 (h:Int) (b:Int)*11400714819323198485)=(Rh h b:Int):=by
 rw[u64_xor_nat h b hh (by omega),IntKind.wrap_u64];unfold Rh;omega
theorem ZI(h b:Nat):bits .xor .u64 (Rh h b:Int) ((Rh h b:Int)/536870912)=(yu h b:Int):=xorShift_u64 (Rh h b) 536870912 (vV h b)
theorem afO(h n:Nat):IntKind.u64.wrap (IntKind.u64.wrap ((h:Int)+(n:Int))*13787848793156543929)=(Ri h n:Int):=by
 rw[IntKind.wrap_u64,IntKind.wrap_u64];unfold Ri;omega
theorem afP(h n:Nat):bits .xor .u64 (Ri h n:Int) ((Ri h n:Int)/4294967296)=(acP h n:Int):=xorShift_u64 (Ri h n) 4294967296 (vW h n)
theorem Ee(a b:List Nat):strOf a++strOf b=strOf (a++b):=by
 simp[strOf,ByteArray.mk_append_mk]
theorem iO(l:List Nat)(i j:Nat):(strOf l).extract i j=strOf ((l.take j).drop i):=by
 apply ByteArray.ext
 simp only[strOf,ByteArray.data_extract,List.extract_toArray,List.extract_eq_take_drop,List.map_drop,List.map_take];rw[List.drop_take]
theorem MV(l:List Nat)(j:Nat):(strOf l).extract 0 j=strOf (l.take j):=by rw[iO,List.drop_zero]
theorem MU(l:List Nat)(i:Nat):(strOf l).extract i l.length=strOf (l.drop i):=by rw[iO,List.take_length]
theorem mV(a:List Nat):(strOf a).toList=a.map UInt8.ofNat:=by simp[strOf]
theorem Jp:∀(a b:List Nat),(∀x∈a,x<256)→(∀x∈b,x<256)→a.map UInt8.ofNat=b.map UInt8.ofNat→a=b
 | [],[],_,_,_=>rfl
 | [],_ :: _,_,_,h=>by simp at h
 | _ :: _,[],_,_,h=>by simp at h
 | x :: a,y :: b,ha,hb,h=>by
  simp only[List.map_cons,List.cons.injEq]at h;have hx:=ha x List.mem_cons_self;have hy:=hb y List.mem_cons_self;have e:=congrArg UInt8.toNat h.1;rw[UInt8.toNat_ofNat_of_lt' hx,UInt8.toNat_ofNat_of_lt' hy]at e;rw[e,Jp a b (fun z hz=>ha z (List.mem_cons_of_mem _ hz)) (fun z hz=>hb z (List.mem_cons_of_mem _ hz)) h.2]
theorem mU(a b:List Nat)(ha:∀x∈a,x<256)(hb:∀x∈b,x<256):((strOf a).toList == (strOf b).toList)=decide (a=b):=by
 rw[mV,mV];by_cases h:a=b
 ·subst h;simp
 ·rw[decide_eq_false h];simp only[beq_eq_false_iff_ne,ne_eq];exact fun e=>h (Jp a b ha hb e)
def Ab(s:ByteArray):List Nat:=s.data.toList.map UInt8.toNat
theorem Yb(s:ByteArray):strOf (Ab s)=s:=by
 apply ByteArray.ext
 have e:(UInt8.ofNat ∘ UInt8.toNat)=id:=funext fun u=>UInt8.ofNat_toNat
 simp[strOf,Ab,e]
theorem in_lt(s:ByteArray):∀x∈Ab s,x<256:=by
 intro x hx;obtain⟨u,_,rfl⟩:=List.mem_map.1 hx;exact u.toNat_lt
theorem of_string(s:ByteArray):∃l,s=strOf l∧∀x∈l,x<256:=⟨Ab s,(Yb s).symm,in_lt s⟩
theorem gQ{l:List Nat}(h:∀x∈l,x<256)(k:Nat):∀x∈l.take k,x<256:=fun x hx=>h x (List.mem_of_mem_take hx)
theorem bZ{l:List Nat}(h:∀x∈l,x<256)(k:Nat):∀x∈l.drop k,x<256:=fun x hx=>h x (List.mem_of_mem_drop hx)
theorem jU{a b:List Nat}(ha:∀x∈a,x<256)(hb:∀x∈b,x<256):∀x∈a++b,x<256:=fun x hx=>(List.mem_append.1 hx).elim (ha x) (hb x)
theorem jM(a b:List Nat)(h:a.length+b.length≤1000000000)(W:World):(Op.stringOp .add (strOf a) (strOf b)).run prog W=.ok (.string (strOf (a++b))) W:=by
 rw[run_string_add_sum W _ _ (by rw[ay,ay];omega),Ee]
theorem oh(l:List Nat)(j:Nat)(h:j≤l.length)(W:World):(Instr.slice 9 (.string (strOf l)) none (some (.int .i64 (j:Int))) none).run prog W=.ok (.string (strOf (l.take j))) W:=by
 rw[run_slice_string_to_if W 9 _ .i64 j underlying9,if_pos ⟨by omega,by rw[ay];omega⟩,Int.toNat_natCast,MV]
theorem kY(l:List Nat)(i:Nat)(h:i≤l.length)(W:World):(Instr.slice 9 (.string (strOf l)) (some (.int .i64 (i:Int))) none none).run prog W=.ok (.string (strOf (l.drop i))) W:=by
 rw[run_slice_string_from_if W 9 _ .i64 i underlying9,if_pos ⟨by omega,by rw[ay];omega⟩,Int.toNat_natCast,ay,MU]
theorem Vq(W:World)(g b:Nat)(hb:b<256)(h:W.cell? ⟨g,0,none⟩=some (.int .u8 (b:Int)))(c:Nat) :
  (convert 87 9 (.slice (some ⟨g,0,none⟩) 1 c)).run prog W=.ok (.string (strOf [b])) W:=by
 have h1:=bP W (some ⟨g,0,none⟩) c [b] (by intro x hx;simp at hx;omega) (fun _=>⟨g,0,rfl,fun j hj=>by
  have:j=0:=by simp[u8s]at hj;omega
  subst this;rw[h];simp[u8s]⟩)
 exact h1
def fx(n:Int):Nat:=(min (max n 0) 8).toNat
theorem aaT(n:Int):fx n≤8:=by unfold fx;omega
abbrev Left:=Option (List Nat)
def gW(n:Nat):Left→List Nat×Left
 | some bs=>if n≤bs.length then(bs.take n,some (bs.drop n))else([],none)
 | none=>([],none)
def eZ:Left→Nat×Left
 | some bs=>if 0<(aj bs).2 then((aj bs).1,some (bs.drop (aj bs).2))else(0,none)
 | none=>(0,none)
def yh(most:Int)(st:Left):Nat×Left:=
 if (eZ st).2=none∨most<0∨most<((eZ st).1:Int)then(0,none)else eZ st
def xB(most:Int)(st:Left):List Nat×Left:=gW (yh most st).1 (yh most st).2
def OkL:Left→Prop
 | some bs=>(∀x∈bs,x<256)∧bs.length≤100000000
 | none=>True
theorem Zz{n:Nat}{st:Left}(h:OkL st):OkL (gW n st).2∧(∀x∈(gW n st).1,x<256)∧(gW n st).1.length≤n:=by
 rcases st with _ | bs
 ·exact⟨trivial,by simp[gW],by simp[gW]⟩
 ·simp only[gW];split
  ·exact⟨⟨bZ h.1 _,by have:=h.2;simp;omega⟩,gQ h.1 _,by simp;omega⟩
  ·exact⟨trivial,by simp,by simp⟩
theorem JA{st:Left}(h:OkL st):OkL (eZ st).2∧(eZ st).1<2^64:=by
 rcases st with _ | bs
 ·exact⟨trivial,by simp[eZ]⟩
 ·simp only[eZ];split
  ·rename_i hp
   exact⟨⟨bZ h.1 _,by have:=h.2;simp;omega⟩,(dW bs _ _ hp rfl).1⟩
  ·exact⟨trivial,by omega⟩
theorem ok_int{most:Int}{st:Left}(h:OkL st)(hm:most≤9223372036854775807):OkL (yh most st).2∧((yh most st).1:Int)≤9223372036854775807:=by
 unfold yh;split
 ·exact⟨trivial,by simp⟩
 ·rename_i hn
  exact⟨(JA h).1,by omega⟩
def PC(w:World):Option Addr→List (List Nat)→Prop
 | p,[]=>p=none
 | p,t :: ts=>∃g q,p=some ⟨g,0,none⟩∧Row w g 103 [.pointer q,.string (strOf t)]∧t≠[]∧PC w q ts
theorem PC.keep{w w':World}(hk:∀g cs,Row w g 103 cs→Row w' g 103 cs):∀(ts:List (List Nat)) (p:Option Addr),PC w p ts→PC w' p ts
 | [],_,h=>h
 | _ :: ts,_,⟨g,q,hp,hr,hn,hc⟩=>⟨g,q,hp,hk _ _ hr,hn,PC.keep hk ts q hc⟩
theorem tL{w w':World}{row:Option Nat}(hg:w.grownBy w' row)(hr:∀g,row=some g→uW w g 103):∀g cs,Row w g 103 cs→Row w' g 103 cs:=
 fun g _ h=>h.keep (hg.block g h.lt (fun e=>(hr g e.symm).ne h rfl))
def CW(w:World)(b:Nat)(bs:List Nat):Prop:=∃(p:Option Addr) (ts:List (List Nat)),
 Row w b 62 [.pointer p,.int .i64 (bs.length:Int)]∧PC w p ts∧bs=ts.reverse.flatten
theorem CW.keep{w w':World}{b:Nat}{bs:List Nat}{row:Option Nat}(h:CW w b bs)(hg:w.grownBy w' row)(hb:row≠some b)(hr:∀g,row=some g→uW w g 103):CW w' b bs:=by
 obtain⟨p,ts,h0,hc,e⟩:=h;exact⟨p,ts,h0.keep (hg.block b h0.lt (fun e=>hb e.symm)),hc.keep (tL hg hr),e⟩
theorem CW.below{w w':World}{b:Nat}{bs:List Nat}(h:CW w b bs)(hg:Below w.heap.size w w'):CW w' b bs:=h.keep (row:=none) (ak hg none) (by simp) (by simp)
theorem CW.lt{w:World}{b:Nat}{bs:List Nat}(h:CW w b bs):b<w.heap.size:=by obtain⟨p,ts,h0,_⟩:=h;exact h0.lt
theorem CW.Jw{w:World}{b:Nat}{bs:List Nat}(h:CW w b bs):uW w b 103:=by obtain⟨p,ts,h0,_⟩:=h;exact h0.Jw (by decide)
theorem CW.new(w:World):CW (w.alloc (.cells #[.pointer none,.int .i64 0] 62)) w.heap.size []:=⟨none,[],Row.new w _ [.pointer none,.int .i64 0],rfl,rfl⟩
def kC:Left→List Value
 | some bs=>[.string (strOf bs),.bool false]
 | none=>[.string (strOf []),.bool true]
def CR(w:World)(b:Nat)(st:Left):Prop:=Row w b 73 (kC st)
theorem CR.keep{w w':World}{b:Nat}{st:Left}{row:Option Nat}(h:CR w b st)(hg:w.grownBy w' row)(hb:row≠some b):CR w' b st:=Row.keep h (hg.block b (Row.lt h) (fun e=>hb e.symm))
theorem CR.below{w w':World}{b:Nat}{st:Left}(h:CR w b st)(hg:Below w.heap.size w w'):CR w' b st:=h.keep (row:=none) (ak hg none) (by simp)
theorem CR.lt{w:World}{b:Nat}{st:Left}(h:CR w b st):b<w.heap.size:=Row.lt h
theorem yJ(n:Int)(w:World)(h0:-9223372036854775808≤n)(h1:n≤9223372036854775807) :
  Calls prog 56 #[.int .i64 n] w fun e w'=>e=.returned (.int .i64 (fx n:Int))∧w=w':=by
 have hf:min (max n 0) 8=(fx n:Int):=by unfold fx;omega
 have Hf:=hid hf;clear hf;go_enter func56,ntmps56
 go_wp2;go_ret;exact⟨congrArg Ending.returned (congrArg (Value.int .i64) Hf.out),rfl⟩
def qX(c i:Nat):Bool:=decide ((i=9∧c=1)∨(i≠9∧(c≠0∨i=0)))
theorem Ph(c i:Nat)(w:World)(hc:c<256)(hi:i≤9) :
  Calls prog 109 #[.int .u8 (c:Int),.int .i64 (i:Int)] w fun e w'=>e=.returned (.bool (qX c i))∧w=w':=by
 by_cases h9:i=9
 ·subst h9;by_cases h1:c=1
  ·subst h1;have he:qX 1 9=true:=by decide
   rw[he];go_enter func109,ntmps109
   go_wp2;go_ret;exact⟨rfl,rfl⟩
  ·have he:qX c 9=false:=by unfold qX;simp;omega
   have hb:((c:Int) == 1)=false:=by simp;omega
   rw[he];clear h1 he;go_enter func109,ntmps109
   go_wp2;go_ret;exact⟨rfl,rfl⟩
 ·have h9b:((i:Int) == 9)=false:=by simp;omega
  by_cases h0:c=0
  ·subst h0;by_cases hz:i=0
   ·subst hz;have he:qX 0 0=true:=by decide
    rw[he];clear h9b;go_enter func109,ntmps109
    go_wp2;go_ret;exact⟨rfl,rfl⟩
   ·have he:qX 0 i=false:=by unfold qX;simp;omega
    have hb:((i:Int) == 0)=false:=by simp;omega
    rw[he];clear he hz h9;go_enter func109,ntmps109
    go_wp2;go_ret;exact⟨rfl,rfl⟩
  ·have he:qX c i=true:=by unfold qX;simp;omega
   have hb:((c:Int) != 0)=true:=by simp;omega
   rw[he];clear he h0 h9;go_enter func109,ntmps109
   go_wp2;go_ret;exact⟨rfl,rfl⟩
theorem CR.cells{w:World}{b:Nat}{st:Left}(h:CR w b st):w.cell? ⟨b,0,none⟩=some (.string (strOf (st.getD [])))∧w.cell? ⟨b,1,none⟩=some (.bool st.isNone)∧w.frozen? ⟨b,0,none⟩=false∧w.frozen? ⟨b,1,none⟩=false:=by
 refine⟨(Row.cell h 0).trans ?_,(Row.cell h 1).trans ?_,Row.free h 0,Row.free h 1⟩
 all_goals rcases st with _ | bs<;>rfl
theorem CR.left{w:World}{b:Nat}{st:Left}(h:CR w b st)(l:List Nat):Row (w.setCell ⟨b,0,none⟩ (.string (strOf l))) b 73 [.string (strOf l),.bool st.isNone]:=by
 have h1:=Row.aW h 0 (.string (strOf l));have e:(kC st).set 0 (.string (strOf l))=[.string (strOf l),.bool st.isNone]:=by rcases st with _ | bs<;>rfl
 rw[e]at h1;exact h1
theorem Row.bad{w:World}{b:Nat}{x:Value}(h:Row w b 73 [.string (strOf []),x]):CR (w.setCell ⟨b,1,none⟩ (.bool true)) b none:=h.aW 1 (.bool true)
theorem CR.step{w:World}{b:Nat}{bs:List Nat}(h:CR w b (some bs))(l:List Nat):CR (w.setCell ⟨b,0,none⟩ (.string (strOf l))) b (some l):=h.left l
theorem aK(b:Nat)(st:Left)(w:World)(h:CR w b st):Calls prog 41 #[.pointer (some ⟨b,0,none⟩)] w fun e w'=>e=.returned (.bool st.isNone)∧w=w':=by
 obtain⟨c0,c1,f0,f1⟩:=h.cells;clear h c0 f0 f1;generalize st.isNone=bad at c1 ⊢;go_enter func41,ntmps41
 go_wp2;go_ret;exact⟨rfl,rfl⟩
theorem qp(b:Nat)(st:Left)(w:World)(h:CR w b st):Calls prog 71 #[.pointer (some ⟨b,0,none⟩)] w fun e w'=>e=.returned (.tuple #[])∧CR w' b none∧w.grownBy w' (some b):=by
 obtain⟨c0,c1,f0,f1⟩:=h.cells;have H:=hid h;clear h;go_enter func71,ntmps71
 go_wp2;go_end0
 refine⟨rfl,?_,aH (aH (au _ _) _ _) _ _⟩;exact(H.out.left []).bad
theorem Ag(l:List Nat)(w:World):Calls prog 18 #[.string (strOf l)] w fun e w'=>e=.returned (.pointer (some ⟨w.heap.size,0,none⟩))∧CR w' w.heap.size (some l)∧Below w.heap.size w w':=by
 generalize hs:strOf l=s;have Hs:=hid hs;clear hs;go_enter func18,ntmps18
 go_wp2;go_ret;refine⟨rfl,?_,(Below.refl _ _).alloc (Nat.le_refl _) _⟩;rw[←Hs.out];exact Row.new w 73 [.string (strOf l),.bool false]
theorem vH(bs:List Nat):(strOf bs).toList.isEmpty=decide (bs=[]):=by
 rw[mV];rcases bs with _ | ⟨x,bs⟩
 ·rfl
 ·rw[decide_eq_false (by simp)];rfl
theorem Si(b:Nat)(st:Left)(w:World)(h:CR w b st):Calls prog 21 #[.pointer (some ⟨b,0,none⟩)] w fun e w'=>e=.returned (.bool (decide (st=some [])))∧w=w':=by
 have Hb:=hid (aK b st w h);obtain⟨c0,c1,f0,f1⟩:=h.cells;clear h c1 f0 f1;rcases st with _ | bs
 ·rw[decide_eq_false (by simp)];go_enter func21,ntmps21
  go_wp2_with fail
  refine Hb.out.mono ?_;rintro e w' ⟨rfl,rfl⟩;go_wp2;go_ret;exact⟨rfl,rfl⟩
 ·have he:=vH bs;have Hd:Hid (decide (some bs=some ([]:List Nat))=decide (bs=[])):=by unfold Hid;simp
  rw[Hd.out];rw[Option.getD_some]at c0;generalize strOf bs=s at c0 he;generalize decide (bs=[])=d at he ⊢;go_enter func21,ntmps21
  go_wp2_with fail
  refine Hb.out.mono ?_;rintro e w' ⟨rfl,rfl⟩;go_wp2;go_ret;exact⟨rfl,rfl⟩
theorem XF(b:Nat)(n:Int)(w:World)(h:CR w b none):Calls prog 42 #[.pointer (some ⟨b,0,none⟩),.int .i64 n] w fun e w'=>e=.returned (.string (strOf []))∧w=w':=by
 have Hb:=hid (aK b none w h);clear h;go_enter func42,ntmps42
 go_wp2_with fail
 refine Hb.out.mono ?_;rintro e w' ⟨rfl,rfl⟩;go_wp2;go_ret;exact⟨rfl,rfl⟩
theorem CR.drew{w:World}{b:Nat}{st:Left}(h:CR w b st):CR w.drew b st:=h.keep (row:=none) (bA (au _ _)) (by simp)
theorem CR.drewN{w:World}{b:Nat}{st:Left}(h:CR w b st)(k:Nat):CR (w.drewN k) b st:=h.keep (row:=none) (bg (au _ _) k) (by simp)
theorem SF(b m:Nat)(n:Int)(bs:List Nat)(w:World)(hm:max n 0=(m:Int))(hle:m≤bs.length)(h:CR w b (some bs)) :
  Calls prog 42 #[.pointer (some ⟨b,0,none⟩),.int .i64 n] w fun e w'=>e=.returned (.string (strOf (bs.take m)))∧CR w' b (some (bs.drop m))∧w.grownBy w' (some b):=by
 have Hb:=hid (aK b _ w h);obtain⟨c0,c1,f0,f1⟩:=h.cells;rw[Option.getD_some]at c0;have hsz:=ay bs;have hto:=oh bs m hle;have Qg:=kY bs m hle;have hstep:=h.step (bs.drop m);have jI:=hid hstep;have hlt:(m:Int)≤(bs.length:Int):=by omega
 clear h hstep c1 f1;generalize strOf bs=s at c0 hsz hto Qg;generalize strOf (bs.take m)=s1 at hto ⊢;generalize strOf (bs.drop m)=s2 at Qg jI;go_enter func42,ntmps42
 go_wp2_with fail
 refine Hb.out.mono ?_;rintro e w' ⟨rfl,rfl⟩;go_wp2;go_ret;exact⟨rfl,jI.out,aH (au _ _) _ _⟩
theorem SE(b m:Nat)(n:Int)(bs:List Nat)(w:World)(hm:max n 0=(m:Int))(hle:bs.length<m)(h:CR w b (some bs)) :
  Calls prog 42 #[.pointer (some ⟨b,0,none⟩),.int .i64 n] w fun e w'=>e=.returned (.string (strOf []))∧CR w' b none∧w.grownBy w' (some b):=by
 have Hb:=hid (aK b _ w h);have Hf:=hid (qp b _ w h);obtain⟨c0,c1,f0,f1⟩:=h.cells;rw[Option.getD_some]at c0;have hsz:=ay bs;have hlt:(bs.length:Int)<(m:Int):=by omega
 clear h c1 f1 f0;generalize strOf bs=s at c0 hsz;go_enter func42,ntmps42
 go_wp2_with fail
 refine Hb.out.mono ?_;rintro e w' ⟨rfl,rfl⟩;go_wp2_with fail
 refine Hf.out.mono ?_;rintro e w' ⟨rfl,hcr,hgr⟩;go_wp2;go_ret;exact⟨rfl,hcr,hgr⟩
theorem fZ(b:Nat)(st:Left)(n:Int)(w:World)(h:CR w b st) :
  Calls prog 42 #[.pointer (some ⟨b,0,none⟩),.int .i64 n] w fun e w'=>e=.returned (.string (strOf (gW n.toNat st).1))∧CR w' b (gW n.toNat st).2∧w.grownBy w' (some b):=by
 rcases st with _ | bs
 ·exact(XF b n w h).mono fun e w' ⟨he,hw⟩=>by subst hw;exact⟨he,h,au _ _⟩
 ·have hm:max n 0=(n.toNat:Int):=by omega
  simp only[gW];split
  ·exact SF b _ n bs w hm (by assumption) h
  ·exact SE b _ n bs w hm (by omega) h
theorem ED(c:Nat)(h:c<256):bits .andNot .u8 (c:Int) 128=((c%128:Nat):Int):=by
 have key:∀c,c<256→bits .andNot .u8 ((c:Nat):Int) 128=((c%128:Nat):Int):=by decide +kernel
 exact key c h
theorem acd(l:List Nat)(k:Nat)(hk:k<l.length)(h9:k≤9) :
  ∃V',bits .or .u64 ((gT (l.take k):Nat):Int) (IntKind.u64.wrap (((l[k]%128:Nat):Int)*2^(7*k)))=((V':Nat):Int)∧V'<2^64∧(k≤8∨l[k]=1→V'=gT (l.take (k+1))):=by
 have hlen:(l.take k).length=k:=by rw[List.length_take];omega
 have hv:=Ii (l.take k);rw[hlen]at hv;have hp:(128:Nat)^k=2^(7*k):=by rw[show(128:Nat)=2^7 by rfl,←Nat.pow_mul]
 have h9p:(128:Nat)^k≤128^9:=Nat.pow_le_pow_right (by omega) h9;have h9e:(128:Nat)^9=2^63:=by decide
 have hv64:gT (l.take k)<2^64:=by omega
 refine⟨_,or_val _ (l[k]%128) (7*k) hv64,?_,?_⟩
 ·exact Nat.or_lt_two_pow hv64 (Nat.mod_lt _ (by decide))
 ·intro hc;have hsmall:l[k]%128*2^(7*k)<2^64:=by
   rw[←hp];rcases hc with h | h
   ·have h8:(128:Nat)^k≤128^8:=Nat.pow_le_pow_right (by omega) h;have h8e:127*(128:Nat)^8<2^64:=by decide
    have:=Nat.mul_le_mul (show l[k]%128≤127 by omega) h8;omega
   ·rw[h,show 1%128=1 from rfl];omega
  rw[Nat.mod_eq_of_lt hsmall,wu (7*k) _ (l[k]%128) (by rw[←hp];exact hv),Ug l k hk,←hp]
theorem MB(b:Nat)(w:World)(h:CR w b none):Calls prog 70 #[.pointer (some ⟨b,0,none⟩)] w fun e w'=>e=.returned (.int .u64 0)∧w=w':=by
 have Hb:=hid (aK b none w h);clear h;go_enter func70,ntmps70
 go_wp2_with fail
 refine Hb.out.mono ?_;rintro e w' ⟨rfl,rfl⟩;go_wp2;go_ret;exact⟨rfl,rfl⟩
theorem Gw(b:Nat)(l:List Nat)(w:World)(hl:l.length≤100000000)(hlt:∀x∈l,x<256)(h:CR w b (some l)) :
  Calls prog 70 #[.pointer (some ⟨b,0,none⟩)] w fun e w'=>e=.returned (.int .u64 ((eZ (some l)).1:Int))∧CR w' b (eZ (some l)).2∧w.grownBy w' (some b):=by
 have Hb:=hid (aK b _ w h);have Hf:=hid (qp b _ w h);obtain⟨c0,c1,f0,f1⟩:=h.cells;rw[Option.getD_some]at c0;have hsz:=ay l;have hidx:∀(i:Nat) (W:World) (hi:i<l.length),(Instr.index 9 (.string (strOf l)) (.int .i64 (i:Int))).run prog W=.ok (.int .u8 ((l[i]:Nat):Int)) W:=fun i W hi=>jD l i W hi (hlt _ (List.getElem_mem hi))
 have Qg:=kY l;have hle:=FI l;obtain⟨n,hn⟩:∃n,n=l.length:=⟨_,rfl⟩;obtain⟨M,hM⟩:∃M,M=min n 10:=⟨_,rfl⟩;have hMi:min (n:Int) 10=(M:Int):=by omega
 obtain⟨f1',f2,hF⟩:∃f1 f2,eZ (some l)=(f1,f2):=⟨_,_,rfl⟩;rw[hF];rw[←hn]at hsz hl;have hMn:M≤n:=by omega
 have amm:M≤10:=by omega
 have HF:=hid hF;have Hn:=hid hn;have HM:=hid hM;have HMi:=hid hMi;have qQ:=hid hidx;have adT:=hid Qg;have Hlt:=hid hlt;have Hle:=hid hle;have H:=hid h;clear hn hidx Qg hlt hF hle hM hMi h c1 f1;generalize strOf l=s at hsz qQ adT c0;go_enter func70,ntmps70
 go_wp2_with fail
 refine Hb.out.mono ?_;rintro e w' ⟨rfl,rfl⟩;go_wp2;rw[HMi.out];go_loop [3,14] (fun v i=>∃k V:Nat,k≤M∧Hid (k≤Bm.lead l)∧i=.int .i64 (k:Int)∧v=.int .u64 (V:Int)∧Hid (k≤9→V=gT (l.take k))) (fun _ i=>M-(intOf i).toNat)
 case atStart=>exact⟨0,0,by omega,Nat.zero_le _,rfl,rfl,fun _=>rfl⟩
 case round=>
  obtain⟨k,V,hkM,hkl,rfl,rfl,hV⟩:=hrel;by_cases amK:k<M
  ·have hk1:k<l.length:=by rw[←Hn.out];omega
   have hk9:k≤9:=by omega
   have hkn:k<n:=by omega
   obtain⟨V',hor,amr,ajf⟩:=acd l k hk1 hk9;have hVk:=hV.out hk9;rw[←hVk]at hor;have hx:=fun W=>qQ.out k W hk1
   have hc8:=Hlt.out l[k] (List.getElem_mem hk1);have hand:=ED l[k] hc8;have hup:=fun h=>QG l k hkl.out hk1 h
   have hat:=fun h=>QF l k hkl.out hk1 h
   have CZ:=fun h=>PO l Hlt.out k hk1 hk9 h
   have aeK:k≤8∨l[k]=1→V'=gT (l.take (k+1)):=ajf;have Hup:=hid hup;have Hat:=hid hat;have Io:=hid CZ;have adF:=hid aeK;have Hor:=hid hor;clear hup hat CZ ajf aeK hVk hor;generalize l[k]=c at hx hc8 hand Hup Hat Io adF Hor;have IY:=adT.out (k+1) hk1;clear hk1;obtain⟨d,hd⟩:∃d,d=c%128:=⟨_,rfl⟩;rw[←hd]at hand Hor;have hd7:d≤127:=by omega
   clear hd;by_cases h128:128≤c
   ·clear IY;go_wp2;go_round
    case rel=>exact⟨k+1,V',by omega,Hup.out h128,by go_num,by first | rfl | rw[Hor.out],fun h9=>adF.out (.inl (by omega))⟩
    case measure=>simp[intOf];omega
   ·have hlead:=Hat.out (by omega);have hfi:=Io.out hlead;have Ls:=fun W=>Ph c k W hc8 hk9
    have hgr:=HF.out;simp only[eZ,hfi]at hgr;have HV:=hid adF.out;by_cases he:(k=9∧c=1)∨(k≠9∧(c≠0∨k=0))
    ·have heb:qX c k=true:=by unfold qX;exact decide_eq_true he
     rw[heb]at Ls;rw[if_pos he]at hgr;simp only[if_pos (Nat.succ_pos k)]at hgr;have hVv:=HV.out (by omega);obtain⟨rfl,rfl⟩:V'=f1'∧some (l.drop (k+1))=f2:=by injection hgr with h1 h2;exact⟨by rw[hVv];exact h1,h2⟩
     have hstep:=H.out.step (l.drop (k+1));rw[show((k+1:Nat):Int)=(k:Int)+1 by omega]at IY;have uS:=hid Ls;have jI:=hid hstep;clear hgr Ls hfi hlead heb he hVv HV hstep HF Hup Hat Io adF;generalize strOf (l.drop (k+1))=s2 at IY jI;go_wp2_with fail
     refine(uS.out _).mono ?_;rintro e w' ⟨rfl,rfl⟩;go_wp2;rw[Hor.out];go_ret;exact⟨rfl,jI.out,aH (au _ _) _ _⟩
    ·have heb:qX c k=false:=by unfold qX;exact decide_eq_false he
     rw[heb]at Ls;rw[if_neg he]at hgr;simp only[Nat.lt_irrefl,if_false]at hgr;obtain⟨rfl,rfl⟩:0=f1'∧none=f2:=by injection hgr with h1 h2;exact⟨h1,h2⟩
     have uS:=hid Ls;clear hgr Ls hfi hlead heb he HV HF Hup Hat Io adF IY;go_wp2_with fail
     refine(uS.out _).mono ?_;rintro e w' ⟨rfl,rfl⟩;go_wp2_with fail
     refine Hf.out.mono ?_;rintro e w' ⟨rfl,hcr,hgr⟩;go_wp2;go_ret;exact⟨rfl,hcr,hgr⟩
  ·have hgr:=HF.out;have hlong:aj l=(0,0):=by
    refine oI l ?_;have h1:=hkl.out;have h2:=Hle.out;have h3:=Hn.out;have h4:=HM.out;omega
   simp only[eZ,hlong,Nat.lt_irrefl,if_false]at hgr;obtain⟨rfl,rfl⟩:0=f1'∧none=f2:=by injection hgr with h1 h2;exact⟨h1,h2⟩
   obtain rfl:k=M:=by omega
   clear hgr hlong HF;go_wp2_with fail
   refine Hf.out.mono ?_;rintro e w' ⟨rfl,hcr,hgr⟩;go_wp2;go_ret;exact⟨rfl,hcr,hgr⟩
theorem Mx(b:Nat)(st:Left)(w:World)(hok:OkL st)(h:CR w b st) :
  Calls prog 70 #[.pointer (some ⟨b,0,none⟩)] w fun e w'=>e=.returned (.int .u64 ((eZ st).1:Int))∧CR w' b (eZ st).2∧w.grownBy w' (some b):=by
 rcases st with _ | l
 ·exact(MB b w h).mono fun e w' ⟨he,hw⟩=>by subst hw;exact⟨he,h,au _ _⟩
 ·exact Gw b l w hok.2 hok.1 h
theorem Nu(a:Addr)(w:World):Calls prog 33 #[.pointer (some a),.string (strOf [])] w fun e w'=>e=.returned (.pointer (some a))∧w=w':=by
 have he:(strOf []).toList.isEmpty=true:=by rw[vH];rfl
 generalize strOf []=s at he ⊢;go_enter func33,ntmps33
 go_wp2;go_ret;exact⟨rfl,rfl⟩
def more(w:World)(b:Nat)(p:Option Addr)(n:Int)(s:ByteArray):World:=
 ((w.setCell ⟨b,0,none⟩ (.pointer (some ⟨w.heap.size,0,none⟩))).setCell ⟨b,1,none⟩ (.int .i64 n)).alloc (.cells #[.pointer p,.string s] 103)
theorem aaG{w:World}{b:Nat}{p:Option Addr}{ts:List (List Nat)}{n:Int}(s:List Nat)(hs:s≠[])(h0:Row w b 62 [.pointer p,.int .i64 n])(hc:PC w p ts) :
  CW (more w b p ((ts.reverse.flatten.length:Int)+(s.length:Int)) (strOf s)) b (ts.reverse.flatten++s)∧w.grownBy (more w b p ((ts.reverse.flatten.length:Int)+(s.length:Int)) (strOf s)) (some b):=by
 have hb:=h0.lt;have hg:w.grownBy (more w b p ((ts.reverse.flatten.length:Int)+(s.length:Int)) (strOf s)) (some b):=
  aD (aH (aH (au _ _) _ _) _ _) _
 refine⟨⟨some ⟨w.heap.size,0,none⟩,s :: ts,?_,⟨w.heap.size,p,rfl,?_,hs,hc.keep (tL hg (fun g e=>?_))⟩,by simp⟩,hg⟩
 ·have h1:=((h0.aW 0 (.pointer (some ⟨w.heap.size,0,none⟩))).aW 1 (.int .i64 ((ts.reverse.flatten.length:Int)+(s.length:Int)))).alloc (.cells #[.pointer p,.string (strOf s)] 103);rw[List.length_append,Int.natCast_add];exact h1
 ·have h1:=Row.new ((w.setCell ⟨b,0,none⟩ (.pointer (some ⟨w.heap.size,0,none⟩))).setCell ⟨b,1,none⟩ (.int .i64 ((ts.reverse.flatten.length:Int)+(s.length:Int)))) 103 [.pointer p,.string (strOf s)];simpa [more]using h1
 ·injection e with e
  subst e;exact h0.Jw (by decide)
theorem Uk(b:Nat)(bs s:List Nat)(w:World)(hs:s≠[])(hl:bs.length+s.length≤1000000000)(h:CW w b bs) :
  Calls prog 33 #[.pointer (some ⟨b,0,none⟩),.string (strOf s)] w fun e w'=>e=.returned (.pointer (some ⟨b,0,none⟩))∧CW w' b (bs++s)∧w.grownBy w' (some b):=by
 obtain⟨p,ts,h0,hc,e⟩:=h;have hend:=aaG s hs h0 hc;have c0:=h0.cell 0;have c1:=h0.cell 1;have f0:=h0.free 0;have f1:=h0.free 1;have hbl:=h0.lt;simp only[List.getElem?_cons_zero,List.getElem?_cons_succ]at c0 c1;rw[←e]at hend;have he:(strOf s).toList.isEmpty=false:=by rw[vH];simp[hs]
 have hsz:=ay s;have gV:=hid hend;clear hend h0 hc e hs;generalize strOf s=str at he hsz gV ⊢;go_enter func33,ntmps33
 go_wp2;go_ret;exact⟨rfl,gV.out.1,gV.out.2⟩
theorem gX(b:Nat)(bs s:List Nat)(w:World)(hl:bs.length+s.length≤1000000000)(h:CW w b bs) :
  Calls prog 33 #[.pointer (some ⟨b,0,none⟩),.string (strOf s)] w fun e w'=>e=.returned (.pointer (some ⟨b,0,none⟩))∧CW w' b (bs++s)∧w.grownBy w' (some b):=by
 by_cases hs:s=[]
 ·subst hs;exact(Nu _ w).mono fun e w' ⟨he,hw⟩=>by subst hw;exact⟨he,by rw[List.append_nil];exact h,au _ _⟩
 ·exact Uk b bs s w hs hl h
theorem VI(v m:Nat)(h:m≤8):(eY (List.replicate 8 0) 0 8 v).take m=Bm.bytesOf v m:=by
 have e:eY (List.replicate 8 0) 0 8 v=Bm.bytesOf v 8:=by simp[eY]
 rw[e,Bm.bytesOf_take _ _ _ h]
theorem SA{w:World}{g k v:Nat}{cs:List Nat}{t:TypeId}(hl:k<cs.length)(h:Row w g t (u8s (eY cs 0 k v))) :
  Row (w.setCell ⟨g,k,none⟩ (.int .u8 ((v/256^k%256:Nat):Int))) g t (u8s (eY cs 0 (k+1) v)):=by
 have h1:=h.aW k (.int .u8 ((v/256^k%256:Nat):Int));have h2:=yQ cs 0 k v (by omega);rw[Nat.zero_add]at h2;rw[xG,h2]at h1;exact h1
theorem IC{w:World}{g m c:Nat}{t:TypeId}{cs:List Nat}(h:Row w g t (u8s cs))(hm:m≤cs.length)(hlt:∀x∈cs,x<256) :
  (convert 87 9 (.slice (some ⟨g,0,none⟩) m c)).run prog w=.ok (.string (strOf (cs.take m))) w:=by
 have h1:=bP w (some ⟨g,0,none⟩) c (cs.take m) (gQ hlt m) (fun _=>⟨g,0,rfl,fun j hj=>by
  have hj':j<m:=by simp[u8s]at hj;omega
  rw[Nat.zero_add,h.cell j];simp[u8s,hj']⟩)
 rw[List.length_take,Nat.min_eq_left hm]at h1;exact h1
theorem XU(g m:Nat)(W:World)(h:m≤8):(Instr.sliceAt 101 (.pointer (some ⟨g,0,none⟩)) none (some (.int .i64 (m:Int))) none).run prog W=.ok (.slice (some ⟨g,0,none⟩) m 8) W:=by
 have hl:prog.arrayLen 101=8:=by kernel_rfl
 have he:prog.elem 101=5:=by kernel_rfl
 rw[run_sliceAt_array_h W 101 ⟨g,0,none⟩ (by kernel_rfl) .i64 m (by omega) (by rw[hl];omega),hl,he];go_simp
theorem aA{w w1 w2:World}{row:Option Nat}(h:w.grownBy w1 row)(h2:w1.grownBy w2 row):w.grownBy w2 row:=
 ⟨h2.os.trans h.os,h2.tape.trans h.tape,h2.output.trans h.output,Nat.le_trans h.size h2.size,fun i hi hn=>(h2.block i (Nat.lt_of_lt_of_le hi h.size) hn).trans (h.block i hi hn)⟩
theorem nP(b v:Nat)(n:Int)(bs:List Nat)(w:World)(hn0:-9223372036854775808≤n)(hn1:n≤9223372036854775807)(hv:v<2^64)(hl:bs.length≤100000000)(h:CW w b bs) :
  Calls prog 31 #[.pointer (some ⟨b,0,none⟩),.int .u64 (v:Int),.int .i64 n] w fun e w'=>e=.returned (.pointer (some ⟨b,0,none⟩))∧CW w' b (bs++Bm.bytesOf v (fx n))∧w.grownBy w' (some b):=by
 have hfx:=aaT n;have Hf:=hid (fun w=>yJ n w hn0 hn1);have Hcw:=hid h;have Hl:=hid hl;have hg:Row (w.alloc (.cells (u8s (List.replicate 8 0)).toArray 101)) w.heap.size 101 (u8s (List.replicate 8 0)):=Row.new w _ _;have Hg:=hid hg;have h64:v≤18446744073709551615:=by omega
 clear h hl hg hv;generalize fx n=m at hfx Hf ⊢;go_enter func31,ntmps31
 go_wp2;go_loopw [9] (fun i wr=>∃k:Nat,k≤8∧i=.int .i64 (k:Int)∧Hid (Row wr w.heap.size 101 (u8s (eY (List.replicate 8 0) 0 k v)))∧Hid (Below w.heap.size w wr)) (fun i _=>8-(intOf i).toNat)
 case atStart=>exact⟨0,by omega,rfl,Hg.out,(Below.refl _ _).alloc (Nat.le_refl _) _⟩
 case round=>
  obtain⟨k,hk,rfl,hrow,hbel⟩:=hrel;have hlen:(eY (List.replicate 8 0) 0 k v).length=8:=by rw[sZ _ _ _ _ (by simp;omega)];simp
  by_cases hlt:k<8
  ·have hcell:=hrow.out.cell k;have hfree:=hrow.out.free k;rw[bD _ _ (by omega)]at hcell;generalize (eY (List.replicate 8 0) 0 k v)[k]=old at hcell;clear hlen;go_wp2;rw[Iw];go_roundw
   case rel=>exact⟨k+1,by omega,by go_num,SA (by simp;omega) hrow.out,hbel.out.setCell (Nat.le_refl _) _⟩
   case measure=>simp[intOf];omega
  ·obtain rfl:k=8:=by omega
   have bO:=IC (m:=m) (c:=8) hrow.out (by omega) (fun x hx=>by
    simp[eY]at hx;exact eF _ _ x hx)
   rw[VI _ _ hfx]at bO;have hcw:=Hcw.out.below hbel.out;have Lu:bs.length+(Bm.bytesOf v m).length≤1000000000:=by rw[Bm.bytesOf_length];have:=Hl.out;omega
   have fO:=hid (gX b bs _ wr Lu hcw);have hsl:=XU w.heap.size m wr hfx;have Hgr:=hid (ak hbel.out (some b));clear hlen Lu hcw hlt;generalize strOf (Bm.bytesOf v m)=str at bO fO;go_wp2_with fail
   refine(Hf.out _).mono ?_;rintro e w' ⟨rfl,rfl⟩;go_wp2_with fail
   refine fO.out.mono ?_;rintro e w' ⟨rfl,alE,alJ⟩;go_wp2;go_ret;exact⟨rfl,alE,aA Hgr.out alJ⟩
theorem bU(w:World)(l:List Nat)(hlt:∀x∈l,x<256):∃w2 cap,(convert 9 87 (.string (strOf l))).run prog w=.ok (.slice (some ⟨w.heap.size,0,none⟩) l.length cap) w2 ∧
  (∀j (h:j<l.length),w2.cell? ⟨w.heap.size,j,none⟩=some (.int .u8 (l[j]:Int)))∧Below w.heap.size w w2:=by
 have h:=run_bytes_of_string (P:=prog) w 9 87 5 (strOf l) underlying9 underlying87 underlying5;rw[ay]at h;refine⟨_,_,h,?_,?_⟩
 ·intro j hj;have hs:j<(strOf l).data.size:=by simp[strOf];exact hj
  have h1:=bytesRow_at (strOf l) (grownCap w l.length 0 5) j hs;have e:(strOf l).data[j]=UInt8.ofNat l[j]:=by simp[strOf]
  rw[e,UInt8.toNat_ofNat_of_lt' (hlt _ (List.getElem_mem hj))]at h1;rw[cell_of_row _ w.heap.size j _ _ _ (heap_alloc_new w.drew _)];exact h1
 ·exact(Below.refl _ _).drew.alloc (Nat.le_refl _) _
theorem nH(b:Nat)(st:Left)(most:Int)(w:World)(hm0:-9223372036854775808≤most)(hm1:most≤9223372036854775807)(hok:OkL st)(h:CR w b st) :
  Calls prog 40 #[.pointer (some ⟨b,0,none⟩),.int .i64 most] w fun e w'=>e=.returned (.int .i64 ((yh most st).1:Int))∧CR w' b (yh most st).2∧w.grownBy w' (some b):=by
 have Hg:=hid (Mx b st w hok h);have hok2:=JA hok;unfold yh;obtain⟨v,st',hgs⟩:∃v st',eZ st=(v,st'):=⟨_,_,rfl⟩;rw[hgs]at Hg hok2 ⊢;have hv:=hok2.2;clear hok2 hgs h hok;rcases st' with _ | l
 ·rw[if_pos (.inl rfl)];go_enter func40,ntmps40
  go_wp2_with fail
  refine Hg.out.mono ?_;rintro e w1 ⟨rfl,hcr,hgr⟩;have Hb:=hid (aK b none w1 hcr);go_wp2_with fail
  refine Hb.out.mono ?_;rintro e w' ⟨rfl,rfl⟩;go_wp2;go_ret;exact⟨rfl,hcr,hgr⟩
 ·by_cases hneg:most<0
  ·rw[if_pos (.inr (.inl hneg))];go_enter func40,ntmps40
   go_wp2_with fail
   refine Hg.out.mono ?_;rintro e w1 ⟨rfl,hcr,hgr⟩;have Hb:=hid (aK b _ w1 hcr);have Hf:=hid (qp b _ w1 hcr);have Hgr:=hid hgr;clear hcr hgr;go_wp2_with fail
   refine Hb.out.mono ?_;rintro e w' ⟨rfl,rfl⟩;go_wp2_with fail
   refine Hf.out.mono ?_;rintro e w2 ⟨rfl,hcr,hgr⟩;go_wp2;go_ret;exact⟨rfl,hcr,aA Hgr.out hgr⟩
  ·obtain⟨m,rfl⟩:=Int.eq_ofNat_of_zero_le (show 0≤most by omega);by_cases hgt:m<v
   ·rw[if_pos (.inr (.inr (by show((m:Nat):Int)<((v:Nat):Int);omega)))];clear hv;go_enter func40,ntmps40
    go_wp2_with fail
    refine Hg.out.mono ?_;rintro e w1 ⟨rfl,hcr,hgr⟩;have Hb:=hid (aK b _ w1 hcr);have Hf:=hid (qp b _ w1 hcr);have Hgr:=hid hgr;clear hcr hgr;go_wp2_with fail
    refine Hb.out.mono ?_;rintro e w' ⟨rfl,rfl⟩;go_wp2_with fail
    refine Hf.out.mono ?_;rintro e w2 ⟨rfl,hcr,hgr⟩;go_wp2;go_ret;exact⟨rfl,hcr,aA Hgr.out hgr⟩
   ·rw[if_neg (by show ¬(some l=none∨((m:Nat):Int)<0∨((m:Nat):Int)<((v:Nat):Int));simp;omega)];have hvm:v≤m:=by omega
    clear hv hgt;go_enter func40,ntmps40
    go_wp2_with fail
    refine Hg.out.mono ?_;rintro e w1 ⟨rfl,hcr,hgr⟩;have Hb:=hid (aK b _ w1 hcr);have Hcr:=hid hcr;have Hgr:=hid hgr;clear hcr hgr;go_wp2_with fail
    refine Hb.out.mono ?_;rintro e w' ⟨rfl,rfl⟩;go_wp2;go_ret;exact⟨rfl,Hcr.out,Hgr.out⟩
theorem mO(b:Nat)(st:Left)(most:Int)(w:World)(hm0:-9223372036854775808≤most)(hm1:most≤9223372036854775807)(hok:OkL st)(h:CR w b st) :
  Calls prog 112 #[.pointer (some ⟨b,0,none⟩),.int .i64 most] w fun e w'=>e=.returned (.string (strOf (xB most st).1))∧CR w' b (xB most st).2∧w.grownBy w' (some b):=by
 have Hi:=hid (nH b st most w hm0 hm1 hok h);unfold xB;obtain⟨v,st',hgs⟩:∃v st',yh most st=(v,st'):=⟨_,_,rfl⟩;rw[hgs]at Hi ⊢;have hr:∀w1,CR w1 b st'→_:=fun w1 h1=>fZ b st' (v:Int) w1 h1
 rw[Int.toNat_natCast]at hr;have Hr:=hid hr;clear hgs h hok hr hm0 hm1;go_enter func112,ntmps112
 go_wp2_with fail
 refine Hi.out.mono ?_;rintro e w1 ⟨rfl,hcr,hgr⟩;have Hgr:=hid hgr;have Hcr:=hid (Hr.out w1 hcr);clear hcr hgr;go_wp2_with fail
 refine Hcr.out.mono ?_;rintro e w2 ⟨rfl,hcr,hgr⟩;go_wp2;go_ret;exact⟨rfl,hcr,aA Hgr.out hgr⟩
theorem abY(l:List Nat)(k:Nat)(hk:k<l.length)(h8:l.length≤8)(hlt:∀x∈l,x<256) :
  bits .or .u64 ((aS (l.take k):Nat):Int) (IntKind.u64.wrap ((l[k]:Int)*2^(8*k)))=((aS (l.take (k+1)):Nat):Int):=by
 have hlen:(l.take k).length=k:=by rw[List.length_take];omega
 have hv:=jP (l.take k) (gQ hlt k);rw[hlen,rO]at hv;have hb:=hlt l[k] (List.getElem_mem hk);have hp:(2:Nat)^(8*k)≤2^56:=Nat.pow_le_pow_right (by omega) (by omega);have h64:l[k]*2^(8*k)<2^64:=by
  have:=Nat.mul_le_mul (show l[k]≤255 by omega) hp;omega
 rw[or_val _ _ _ (by omega),Nat.mod_eq_of_lt h64,wu _ _ _ hv,List.take_succ_eq_append_getElem hk,qJ,hlen,rO]
theorem kE(b:Nat)(st:Left)(n:Int)(w:World)(hn0:-9223372036854775808≤n)(hn1:n≤9223372036854775807)(hok:OkL st)(h:CR w b st) :
  Calls prog 39 #[.pointer (some ⟨b,0,none⟩),.int .i64 n] w fun e w'=>e=.returned (.int .u64 (aS (gW (fx n) st).1:Int))∧CR w' b (gW (fx n) st).2∧w.grownBy w' (some b):=by
 have hfx:=aaT n;have Hfx:=hid (yJ n w hn0 hn1);have hr:=fZ b st (fx n:Int) w h;rw[Int.toNat_natCast]at hr;have hok2:=Zz (n:=fx n) hok;generalize fx n=m at *;obtain⟨l,st',hgs⟩:∃l st',gW m st=(l,st'):=⟨_,_,rfl⟩;rw[hgs]at hr hok2 ⊢;have hlt:=hok2.2.1;have hl8:l.length≤8:=Nat.le_trans hok2.2.2 hfx;have Hr:=hid hr;have Hlt:=hid hlt;obtain⟨res,hres⟩:∃r,r=aS l:=⟨_,rfl⟩;rw[←hres];have dQ:=hid hres;clear hr hok2 hok h hgs hlt hn0 hn1 hfx hres;go_enter func39,ntmps39
 go_wp2_with fail
 refine Hfx.out.mono ?_;rintro e w' ⟨rfl,rfl⟩;go_wp2_with fail
 refine Hr.out.mono ?_;rintro e w1 ⟨rfl,hcr,hgr⟩;obtain⟨w2,cap,bO,hcells,hbel⟩:=bU w1 l Hlt.out;have hbw:=hcr.lt;have Hcr:=hid (hcr.below hbel);have Hgr:=hid (aA hgr (ak hbel (some b)));have yx:=hid hcells;have Hor:=hid (fun k hk=>abY l k hk hl8 Hlt.out);clear hcr hgr hcells hbel;obtain⟨g,hg⟩:∃g,g=w1.heap.size:=⟨_,rfl⟩;rw[←hg]at bO yx;clear hg;generalize strOf l=s at bO ⊢;obtain⟨N,hN⟩:∃N,N=l.length:=⟨_,rfl⟩;rw[←hN]at bO hl8;have HN:=hid hN;clear hN;go_wp2;go_loop [5,14] (fun v i=>∃k V:Nat,k≤N∧i=.int .i64 (k:Int)∧v=.int .u64 (V:Int)∧Hid (V=aS (l.take k))) (fun _ i=>N-(intOf i).toNat)
 case atStart=>exact⟨0,0,by omega,rfl,rfl,rfl⟩
 case round=>
  obtain⟨k,V,hk,rfl,rfl,hV⟩:=hrel;by_cases hlt:k<N
  ·have hk1:k<l.length:=by rw[←HN.out];exact hlt
   have hc:=yx.out k hk1;have hc8:=Hlt.out l[k] (List.getElem_mem hk1);have hor:=Hor.out k hk1;rw[←hV.out]at hor;have aiF:=hid hor;clear hor;generalize l[k]=c at hc hc8 aiF;clear hk1;go_wp2;rw[aiF.out];go_round
   case rel=>exact⟨k+1,_,by omega,by go_num,rfl,rfl⟩
   case measure=>simp[intOf];omega
  ·obtain rfl:k=N:=by omega
   have hVr:V=res:=by rw[hV.out,HN.out,List.take_length,dQ.out]
   subst hVr;go_wp2;go_ret;exact⟨rfl,Hcr.out,Hgr.out⟩
theorem CP(t:List Nat)(h0:0<(aj t).2):eZ (some t)=((aj t).1,some (t.drop (aj t).2)):=by
 simp only[eZ,if_pos h0]
theorem VQ(t:List Nat)(h0:¬0<(aj t).2):eZ (some t)=(0,none):=by
 simp only[eZ,if_neg h0]
theorem mI(m:Int)(t:List Nat)(h0:0<(aj t).2)(hm:((aj t).1:Int)≤m):yh m (some t)=((aj t).1,some (t.drop (aj t).2)):=by
 unfold yh;rw[CP t h0,if_neg];rintro(h | h | h)
 ·cases h
 ·omega
 ·dsimp only at h;omega
theorem yY(m:Int)(t:List Nat)(h:¬(0<(aj t).2∧((aj t).1:Int)≤m)):yh m (some t)=(0,none):=by
 unfold yh;by_cases h0:0<(aj t).2
 ·rw[CP t h0,if_pos];by_cases hm:m<0
  ·exact .inr (.inl hm)
  ·exact .inr (.inr (by dsimp only;omega))
 ·rw[VQ t h0,if_pos (.inl rfl)]
theorem Ym(t:List Nat)(h:0<(aj t).2∧(aj t).1≤t.length-(aj t).2)(_:t.length≤100000000) :
  xB 9223372036854775807 (some t)=((t.drop (aj t).2).take (aj t).1,some (t.drop ((aj t).2+(aj t).1))):=by
 unfold xB;rw[mI 9223372036854775807 t h.1 (by omega)];simp only[gW];rw[if_pos (by rw[List.length_drop];exact h.2),List.drop_drop]
theorem acS(t:List Nat)(h:¬(0<(aj t).2∧(aj t).1≤t.length-(aj t).2))(_:t.length≤100000000) :
  xB 9223372036854775807 (some t)=([],none):=by
 unfold xB;by_cases h0:0<(aj t).2∧((aj t).1:Int)≤9223372036854775807
 ·rw[mI 9223372036854775807 t h0.1 h0.2];simp only[gW];rw[if_neg (by rw[List.length_drop];omega)]
 ·rw[yY 9223372036854775807 t h0];rfl
theorem Mt{w w':World}{b:Nat}{st:Left}{A:Option Addr}{l:List Nat}(h:CR w b st)(hr:Reads w A (aM l))(hg:w.grownBy w' (some b)):Reads w' A (aM l):=fun hne=>by
 obtain⟨g,off,rfl,hc⟩:=hr hne;refine⟨g,off,rfl,fun j hj=>?_⟩;have h1:=hc j hj;rw[aL]at hj;rw[bK l j hj]at h1 ⊢;refine hg.cell h1 (fun e=>?_);injection e with e
 dsimp only at e;subst e;have h2:=(Row.cell h (off+j)).symm.trans h1;have hrc:∀(m:Nat) (z:Int),(kC st)[m]?≠some (.int .i64 z):=by
  intro m z hx;rcases st with _ | bs
  all_goals
   match m,hx with
   | 0,hx=>simp[kC]at hx
   | 1,hx=>simp[kC]at hx
   | m+2,hx=>simp[kC]at hx
 exact hrc _ _ h2
theorem uH(k:Nat)(r:List Nat):gW (fx 1) (some (k :: r))=([k],some r):=by
 rw[show fx 1=1 by decide];simp[gW]
theorem wP(n:Nat)(t:List Nat)(h:n≤t.length):gW n (some t)=(t.take n,some (t.drop n)):=by
 simp only[gW,if_pos h]
theorem DJ(n:Nat)(t:List Nat)(h:¬n≤t.length):gW n (some t)=([],none):=by
 simp only[gW,if_neg h]
theorem XW(w:World):Calls prog 44 #[] w fun e w'=>e=.returned (.agg #[.int .u64 7640891576956012808,.int .u64 0])∧Below w.heap.size w w':=by
 go_enter func44,ntmps44
 go_wp2;refine bodyPost_ret (v:=.agg #[.int .u64 7640891576956012808,.int .u64 0]) (by simp[results,results44,go_sem]) rfl ⟨rfl,?_⟩;exact(Below.refl _ _).alloc (Nat.le_refl _) _
theorem SI(h n b:Nat)(w:World)(hh:h<18446744073709551616)(hb:b<256) :
  Calls prog 75 #[.agg #[.int .u64 (h:Int),.int .u64 (n:Int)],.int .u8 (b:Int)] w fun e w'=>e=.returned (.agg #[.int .u64 (yu h b:Int),.int .u64 (((n+1)%18446744073709551616:Nat):Int)])∧Below w.heap.size w w':=by
 have e1:=ZH h b hh hb;have e2:=ZI h b;generalize Rh h b=m at e1 e2;generalize yu h b=r at e2 ⊢;go_enter func75,ntmps75
 go_wp2;refine bodyPost_ret (v:=.agg #[.int .u64 (r:Int),.int .u64 (IntKind.u64.wrap ((n:Int)+1))]) (by simp[results,results75,go_sem]) rfl ⟨?_,?_⟩
 ·rw[IntKind.wrap_u64];simp
 ·exact((Below.refl _ _).alloc (Nat.le_refl _) _).alloc (by simp) _
theorem XY(h n:Nat)(w:World):Calls prog 46 #[.agg #[.int .u64 (h:Int),.int .u64 (n:Int)]] w fun e w'=>e=.returned (.int .u64 (acP h n:Int))∧Below w.heap.size w w':=by
 have e1:=afO h n;have e2:=afP h n;generalize Ri h n=m at e1 e2;generalize acP h n=r at e2 ⊢;go_enter func46,ntmps46
 go_wp2;go_ret;exact⟨rfl,(Below.refl _ _).alloc (Nat.le_refl _) _⟩
theorem abK(v n:Nat)(hv:v<2^64)(hn:n<64):bits .and .u64 (v:Int) (IntKind.u64.wrap (IntKind.u64.wrap (2^n)-1))=((v%2^n:Nat):Int):=by
 have hp:2^n<2^64:=Nat.pow_lt_pow_right (by omega) hn;have e:((2:Int)^n)=((2^n:Nat):Int):=by simp
 have hpos:=Nat.two_pow_pos n;rw[e,nN _ hp,show((2^n:Nat):Int)-1=((2^n-1:Nat):Int) by omega,nN _ (by omega),u64_and_nat _ _ hv (by omega),Nat.and_two_pow_sub_one_eq_mod]
theorem rF(v n:Nat)(w:World)(hv:v<2^64)(hn:n<64) :
  Calls prog 131 #[.int .u64 (v:Int),.int .i64 (n:Int)] w fun e w'=>e=.returned (.int .u64 ((v%2^n:Nat):Int))∧w=w':=by
 have hm:=abK v n hv hn;have Hm:=hid hm;clear hm hv;go_enter func131,ntmps131
 go_wp2;go_ret;exact⟨congrArg Ending.returned (congrArg (Value.int .u64) Hm.out),rfl⟩
theorem QK(b off:Nat)(n:Int)(w:World)(h:w.cell? ⟨b,off+2,none⟩=some (.int .i64 n)) :
  Calls prog 217 #[.pointer (some ⟨b,off,none⟩)] w fun e w'=>e=.returned (.int .i64 n)∧w=w':=by
 go_enter func217,ntmps217
 go_wp2;go_ret;exact⟨rfl,rfl⟩
theorem QJ(b off:Nat)(s:ByteArray)(n:Nat)(w:World)(hs:s.size≤1000000000)(hn:n≤8*s.size)(h0:w.cell? ⟨b,off,none⟩=some (.string s))(h:w.cell? ⟨b,off+1,none⟩=some (.int .i64 (n:Int))) :
  Calls prog 188 #[.pointer (some ⟨b,off,none⟩)] w fun e w'=>e=.returned (.int .i64 ((8*s.size-n:Nat):Int))∧∃k,w'=w.drewN k:=by
 have hx:(8*(s.size:Int)-(n:Int))=((8*s.size-n:Nat):Int):=by omega
 have Hx:=hid hx;clear hx;go_enter func188,ntmps188
 go_wp2;go_quiet (fail)
 go_wp2;go_ret;exact⟨congrArg Ending.returned (congrArg (Value.int .i64) Hx.out),_,rfl⟩
theorem uJ(b off:Nat)(bs:List Nat)(n:Nat)(w:World)(hs:bs.length≤1000000000)(hn:n≤8*bs.length)(h:RS w b off bs n) :
  Calls prog 188 #[.pointer (some ⟨b,off,none⟩)] w fun e w'=>e=.returned (.int .i64 ((8*bs.length-n:Nat):Int))∧∃k,w'=w.drewN k:=by
 have h1:=QJ b off (strOf bs) n w (by rw[ay];exact hs) (by rw[ay];exact hn) h.1 h.2.1;rw[ay]at h1;exact h1
theorem afS{w:World}{b off N n rest v m:Nat}{p:Option Addr}{us:List Nat}(hlow:n%64+m<64)
  (h0:w.cell? ⟨b,off,none⟩=some (.pointer p)) (h1:w.cell? ⟨b,off+1,none⟩=some (.int .u64 (rest:Int))) (h2:w.cell? ⟨b,off+2,none⟩=some (.int .i64 (n:Int)))
  (f0:w.frozen? ⟨b,off,none⟩=false) (f1:w.frozen? ⟨b,off+1,none⟩=false) (f2:w.frozen? ⟨b,off+2,none⟩=false) (hn:uW w b 192) (hc:Chain w p us) (hw:WOk N n rest us) :
  WS ((w.setCell ⟨b,off+1,none⟩ (.int .u64 ((rest ||| v%2^m*2^(n%64)%2^64:Nat):Int))).setCell ⟨b,off+2,none⟩ (.int .i64 ((n+m:Nat):Int))) b off (N+v%2^m*2^n) (n+m) ∧
   w.grownBy ((w.setCell ⟨b,off+1,none⟩ (.int .u64 ((rest ||| v%2^m*2^(n%64)%2^64:Nat):Int))).setCell ⟨b,off+2,none⟩ (.int .i64 ((n+m:Nat):Int))) (some b):=by
 have hg:w.grownBy ((w.setCell ⟨b,off+1,none⟩ (.int .u64 ((rest ||| v%2^m*2^(n%64)%2^64:Nat):Int))).setCell ⟨b,off+2,none⟩ (.int .i64 ((n+m:Nat):Int))) (some b):=
  aH (aH (au _ _) _ _) _ _
 refine⟨⟨p,_,us,?_,?_,?_,?_,?_,?_,(hn.setCell _ _).setCell _ _,hc.keep (pq hg (fun g e=>by injection e with e;subst e;exact hn)),hw.Gp v m hlow⟩,hg⟩
 ·rw[World.cell?_setCell_other _ _ _ _ (by intro e;injection e with _ e _;omega),World.cell?_setCell_other _ _ _ _ (by intro e;injection e with _ e _;omega)];exact h0
 ·rw[World.cell?_setCell_other _ _ _ _ (by intro e;injection e with _ e _;omega),World.cell?_setCell_same _ _ _ h1]
 ·rw[World.cell?_setCell_same _ _ _ (show _=some (.int .i64 (n:Int))from by rw[World.cell?_setCell_other _ _ _ _ (by intro e;injection e with _ e _;omega)];exact h2)]
 ·simpa using f0
 ·simpa using f1
 ·simpa using f2
theorem Gp(b off N n:Nat)(v m:Nat)(w:World)(hn:n≤1000000000)(hv:v<4294967296)(hm:m≤32)(hlow:n%64+m<64)(h:WS w b off N n) :
  Calls prog 99 #[.pointer (some ⟨b,off,none⟩),.int .u32 (v:Int),.int .i64 (m:Int)] w fun e w'=>e=.returned (.bool true)∧WS w' b off (N+v%2^m*2^n) (n+m)∧w.grownBy w' (some b):=by
 obtain⟨p,rest,us,h0,h1,h2,f0,f1,f2,hnt,hc,hw⟩:=h;have hz:=afS (v:=v) (m:=m) hlow h0 h1 h2 f0 f1 f2 hnt hc hw;have Hz:=hid hz;have ho:=or_val rest (v%2^m) (n%64) hw.Sv;have Ho:=hid ho;clear hz ho hc hw hnt f0;go_enter func99,ntmps99
 go_wp2_with fail
 refine(rF v m _ (by omega) (by omega)).mono ?_;rintro e w' ⟨rfl,rfl⟩;go_wp2;go_region
 all_goals go_wp2
 go_ret;rw[Zw,Ho.out,←Int.natCast_add];exact⟨rfl,Hz.out.1.drew,bA Hz.out.2⟩
def Qh(w:World)(b off n rest x m:Nat)(p:Option Addr):World:=
 ((((w.setCell ⟨b,off+1,none⟩ (.int .u64 ((rest ||| x*2^(n%64)%2^64:Nat):Int))).setCell ⟨b,off+2,none⟩ (.int .i64 ((n+m:Nat):Int))).setCell ⟨b,off,none⟩ (.pointer (some ⟨w.heap.size,0,none⟩))).setCell
  ⟨b,off+1,none⟩ (.int .u64 ((x/2^(64-n%64):Nat):Int))).alloc (.cells #[.pointer p,.int .u64 ((rest ||| x*2^(n%64)%2^64:Nat):Int)] 192)
theorem adb{w:World}{b off N n rest v m:Nat}{p:Option Addr}{us:List Nat}(hm:m≤32)(hge:64≤n%64+m)
  (h0:w.cell? ⟨b,off,none⟩=some (.pointer p)) (h1:w.cell? ⟨b,off+1,none⟩=some (.int .u64 (rest:Int))) (h2:w.cell? ⟨b,off+2,none⟩=some (.int .i64 (n:Int)))
  (f0:w.frozen? ⟨b,off,none⟩=false) (f1:w.frozen? ⟨b,off+1,none⟩=false) (f2:w.frozen? ⟨b,off+2,none⟩=false) (hn:uW w b 192) (hc:Chain w p us) (hw:WOk N n rest us) :
  WS (Qh w b off n rest (v%2^m) m p) b off (N+v%2^m*2^n) (n+m)∧w.grownBy (Qh w b off n rest (v%2^m) m p) (some b):=by
 have hg0:w.grownBy ((((w.setCell ⟨b,off+1,none⟩ (.int .u64 ((rest ||| v%2^m*2^(n%64)%2^64:Nat):Int))).setCell ⟨b,off+2,none⟩ (.int .i64 ((n+m:Nat):Int))).setCell ⟨b,off,none⟩
   (.pointer (some ⟨w.heap.size,0,none⟩))).setCell ⟨b,off+1,none⟩ (.int .u64 ((v%2^m/2^(64-n%64):Nat):Int))) (some b):=aH (aH (aH (aH (au _ _) _ _) _ _) _ _) _ _
 have hs0:((((w.setCell ⟨b,off+1,none⟩ (.int .u64 ((rest ||| v%2^m*2^(n%64)%2^64:Nat):Int))).setCell ⟨b,off+2,none⟩ (.int .i64 ((n+m:Nat):Int))).setCell ⟨b,off,none⟩
   (.pointer (some ⟨w.heap.size,0,none⟩))).setCell ⟨b,off+1,none⟩ (.int .u64 ((v%2^m/2^(64-n%64):Nat):Int))).heap.size=w.heap.size:=by simp
 have hg:w.grownBy (Qh w b off n rest (v%2^m) m p) (some b):=aD hg0 _;have hb:=hn.lt;have hrow:Row (Qh w b off n rest (v%2^m) m p) w.heap.size 192 [.pointer p,.int .u64 ((rest ||| v%2^m*2^(n%64)%2^64:Nat):Int)]:=by
  have:=Row.new ((((w.setCell ⟨b,off+1,none⟩ (.int .u64 ((rest ||| v%2^m*2^(n%64)%2^64:Nat):Int))).setCell ⟨b,off+2,none⟩ (.int .i64 ((n+m:Nat):Int))).setCell ⟨b,off,none⟩
   (.pointer (some ⟨w.heap.size,0,none⟩))).setCell ⟨b,off+1,none⟩ (.int .u64 ((v%2^m/2^(64-n%64):Nat):Int))) 192 [.pointer p,.int .u64 ((rest ||| v%2^m*2^(n%64)%2^64:Nat):Int)]
  rw[hs0]at this;exact this
 have ne1:(⟨b,off+1,none⟩:Addr)≠⟨b,off,none⟩:=by intro e;injection e with _ e _;omega
 have ne2:(⟨b,off+2,none⟩:Addr)≠⟨b,off,none⟩:=by intro e;injection e with _ e _;omega
 have ne3:(⟨b,off+2,none⟩:Addr)≠⟨b,off+1,none⟩:=by intro e;injection e with _ e _;omega
 refine⟨⟨some ⟨w.heap.size,0,none⟩,_,_ :: us,?_,?_,?_,?_,?_,?_,((((hn.setCell _ _).setCell _ _).setCell _ _).setCell _ _).alloc _,⟨_,p,rfl,hrow,hc.keep (pq hg (fun g e=>by injection e with e;subst e;exact hn))⟩,hw.Bc v m hm hge⟩,hg⟩ <;>
  unfold Qh
 ·rw[World.cell?_alloc_lt _ _ _ (by simpa using hb),World.cell?_setCell_other _ _ _ _ ne1];exact World.cell?_setCell_same _ _ _ (u:=.pointer p) (by rw[World.cell?_setCell_other _ _ _ _ ne2,World.cell?_setCell_other _ _ _ _ ne1];exact h0)
 ·rw[World.cell?_alloc_lt _ _ _ (by simpa using hb)];exact World.cell?_setCell_same _ _ _ (u:=.int .u64 ((rest ||| v%2^m*2^(n%64)%2^64:Nat):Int)) (by
   rw[World.cell?_setCell_other _ _ _ _ ne1.symm,World.cell?_setCell_other _ _ _ _ ne3];exact World.cell?_setCell_same _ _ _ h1)
 ·rw[World.cell?_alloc_lt _ _ _ (by simpa using hb),World.cell?_setCell_other _ _ _ _ ne3.symm,World.cell?_setCell_other _ _ _ _ ne2.symm];exact World.cell?_setCell_same _ _ _ (u:=.int .i64 (n:Int)) (by rw[World.cell?_setCell_other _ _ _ _ ne3.symm];exact h2)
 ·rw[World.frozen?_alloc_past _ _ _ (by simpa using hb)];simpa using f0
 ·rw[World.frozen?_alloc_past _ _ _ (by simpa using hb)];simpa using f1
 ·rw[World.frozen?_alloc_past _ _ _ (by simpa using hb)];simpa using f2
theorem Bc(b off N n:Nat)(v m:Nat)(w:World)(hn:n≤1000000000)(hv:v<4294967296)(hm:m≤32)(hge:64≤n%64+m)(h:WS w b off N n) :
  Calls prog 99 #[.pointer (some ⟨b,off,none⟩),.int .u32 (v:Int),.int .i64 (m:Int)] w fun e w'=>e=.returned (.bool true)∧WS w' b off (N+v%2^m*2^n) (n+m)∧w.grownBy w' (some b):=by
 obtain⟨p,rest,us,h0,h1,h2,f0,f1,f2,hnt,hc,hw⟩:=h;have hz:=adb (v:=v) (m:=m) hm hge h0 h1 h2 f0 f1 f2 hnt hc hw;have Hz:=hid hz;have ho:=or_val rest (v%2^m) (n%64) hw.Sv;have Ho:=hid ho;have hb:=hnt.lt;have hd:((v%2^m:Nat):Int)/2^(64-n%64)=((v%2^m/2^(64-n%64):Nat):Int):=by simp
 have Hd:=hid hd;clear hz ho hc hw hnt hd;go_enter func99,ntmps99
 go_wp2_with fail
 refine(rF v m _ (by omega) (by omega)).mono ?_;rintro e w' ⟨rfl,rfl⟩;go_wp2;go_region
 all_goals go_wp2
 go_region
 all_goals go_wp2
 go_ret;rw[Zw,Ho.out,Hd.out,←Int.natCast_add];exact⟨rfl,Hz.out.1.drew.drew,bA (bA Hz.out.2)⟩
theorem qm(b off N n:Nat)(v m:Nat)(w:World)(hn:n≤1000000000)(hv:v<4294967296)(hm:m≤32)(h:WS w b off N n) :
  Calls prog 99 #[.pointer (some ⟨b,off,none⟩),.int .u32 (v:Int),.int .i64 (m:Int)] w fun e w'=>e=.returned (.bool true)∧WS w' b off (N+v%2^m*2^n) (n+m)∧w.grownBy w' (some b):=by
 by_cases hl:n%64+m<64
 ·exact Gp b off N n v m w hn hv hm hl h
 ·exact Bc b off N n v m w hn hv hm (by omega) h
theorem kD{w w':World}{A:Option Addr}{xs:List Value}{b:Nat}(h:Reads w A xs)(hA:∀a,A=some a→a.block≠b)(hg:w.grownBy w' (some b)):Reads w' A xs:=fun hne=>by
 obtain⟨g,off,rfl,hc⟩:=h hne;have hgb:g≠b:=hA _ rfl;refine⟨g,off,rfl,fun j hj=>?_⟩;have h1:=hc j hj;have hlt:j<xs.length:=hj;rw[List.getElem?_eq_getElem hlt]at h1 ⊢;exact hg.cell h1 (fun e=>by injection e with e;exact hgb e)
theorem dX(W:World)(p:Addr)(u:Value):W.grownBy (W.setCell p u) (some p.block):=⟨rfl,rfl,rfl,by simp[World.setCell],fun i _ hne=>Below.heap_setCell W p u i (fun e=>hne (by rw[e]))⟩
def ahg:Prop:=(∀(w:World) (v:Nat),v≤65535→Calls prog 98 #[.int .i64 (v:Int)] w fun e w'=>e=.returned (.tuple #[.int .u8 (kM v:Int),.int .i64 (kr v:Int),.int .i64 (gu v:Int),.bool true])∧Below w.heap.size w w') ∧
 ∀(w:World) (v:Int),-9223372036854775808≤v∧v≤9223372036854775807→(v<0∨65535<v)→Calls prog 98 #[.int .i64 v] w fun e w'=>e=.returned (.tuple #[.int .u8 0,.int .i64 0,.int .i64 0,.bool false])∧Below w.heap.size w w'
def aer:Prop:=∀(w:World) (c m:Nat),c<256→m<4294967296→Calls prog 186 #[.int .u8 (c:Int),.int .u32 (m:Int)] w fun e w'=>e=.returned (match iF c m with | some g=>.tuple #[.int .i64 (g:Int),.bool true] | none=>.tuple #[.int .i64 0,.bool false])∧Below w.heap.size w w'
def aep:Prop:=∀w:World,Calls prog 96 #[] w fun e w'=>e=.returned (.agg #[.int .i64 1,.int .i64 2,.int .i64 4])∧Below w.heap.size w w'
def lY(x:Int):Prop:=-9223372036854775808≤x∧x≤9223372036854775807
def alk:Prop:=∀(w:World) (a b c x:Int),lY a→lY b→lY c→lY x→Calls prog 129 #[.agg #[.int .i64 a,.int .i64 b,.int .i64 c],.int .i64 x] w fun e w'=>
 (0≤nU a b c x→e=.returned (.tuple #[.int .i64 (nU a b c x),.agg #[.int .i64 (oz a b c x).1,.int .i64 (oz a b c x).2.1,.int .i64 (oz a b c x).2.2],.bool true])) ∧
 (nU a b c x<0→e=.returned (.tuple #[.int .i64 0,.agg #[.int .i64 a,.int .i64 b,.int .i64 c],.bool false]))∧Below w.heap.size w w'
def alm:Prop:=∀(w:World) (a b c n:Int),lY a→lY b→lY c→lY n→Calls prog 187 #[.agg #[.int .i64 a,.int .i64 b,.int .i64 c],.int .i64 n] w fun e w'=>
 (∀x,xR a b c n=some x→e=.returned (.tuple #[.int .i64 x,.agg #[.int .i64 (oz a b c x).1,.int .i64 (oz a b c x).2.1,.int .i64 (oz a b c x).2.2],.bool true])) ∧
 (xR a b c n=none→e=.returned (.tuple #[.int .i64 0,.agg #[.int .i64 a,.int .i64 b,.int .i64 c],.bool false]))∧Below w.heap.size w w'
section
variable {P:Program} (w:World)
theorem rW(base:Nat)(t x ty e:TypeId)(i:TypeInfo)(z:Value)(ht:P.underlying t=some (.slice e))(hx:P.underlying x=some .string)(hi:P.info? e=some i)(hz:i.zero=some z)
  (hsize:i.size=1) (hzs:z.cells.size=1) (s:ByteArray) (m:Nat) (hm:s.size=m) (v:Value) (n:Nat) (xs:List Value) (hown:w.ownsRow base e 1 v n xs)
  (h63:n+m≤maxLen) (hbytes:(n+m)*i.bytes≤140737488355328) (hbase:base≤w.heap.size) :
  ∃v' w',(Builtin.append_ #[t,x] ty #[v,.string s]).run P w=.ok v' w'∧w'.ownsRow base e 1 v' (n+m) (xs++byteCells s)∧w.grownBy w' v.ownBlock:=by
 have hsrc:Src P i.size x (.string s) m (byteCells s) w:=by rw[hsize,←hm];exact Src.ofString w hx s
 have hsrc1:Src P 1 x (.string s) m (byteCells s) w:=by rw[←hm];exact Src.ofString w hx s
 have hl:(byteCells s).length=m:=by rw[byteCells_length,hm]
 have hsmall:n+m≤9223372036854775807:=by simp only[maxLen]at h63;omega
 have h63':¬(9223372036854775807<((n:Int)+(m:Int))):=by omega
 have hlen:(xs++byteCells s).length=n+m:=by rw[List.length_append,hown.1,hl,Nat.mul_one]
 have grown:∀(old:Nat),old<n+m→∀(row:Option Nat),
   (w.drew.alloc (.cells ((xs++byteCells s).toArray++Builtin.zeroCells z.cells (grownCap w (n+m) old e-(n+m))) e)).ownsRow base e 1
    (.slice (some ⟨w.heap.size,0,none⟩) (n+m) (grownCap w (n+m) old e)) (n+m) (xs++byteCells s) ∧
   w.grownBy (w.drew.alloc (.cells ((xs++byteCells s).toArray++Builtin.zeroCells z.cells (grownCap w (n+m) old e-(n+m))) e)) row:=by
  intro old ho row;have hge:=grownCap_ge w (n+m) old e;have hcm:grownCap w (n+m) old e≤maxLen:=grownCap_le_maxLen w (n+m) old e h63;refine⟨⟨by rw[hlen,Nat.mul_one],.inr ⟨w.heap.size,_,_,rfl,hbase,heap_alloc_new w.drew _,hge,hcm,?_,?_⟩⟩,⟨rfl,rfl,rfl,by simp,fun _ hk _=>Go.heap_alloc_old w.drew _ hk⟩⟩
  ·simp only[Array.size_append,List.size_toArray,size_zeroCells,hzs,hlen];omega
  ·simp only[Array.toList_append];rw[Nat.mul_one,←hlen];exact List.take_left
 rcases hown.2 with⟨rfl,rfl⟩ | ⟨g,cap,cur,rfl,hbg,hg,hnc,hcm,hcs,htake⟩
 ·have hx0:xs=[]:=List.eq_nil_of_length_eq_zero (by simpa using hown.1);subst hx0;by_cases hm0:m=0
  ·subst hm0;have hn0:byteCells s=[]:=List.eq_nil_of_length_eq_zero hl;rw[hn0];refine⟨.slice none 0 0,w,?_,World.ownsRow_nil w base e 1,⟨rfl,rfl,rfl,Nat.le_refl _,fun _ _ _=>rfl⟩⟩;have hle:∀w':World,(Builtin.lenOf (.string s)).run P w'=.ok 0 w':=hsrc1.len;simp[Builtin.append_,run_underlying ht,run_underlying hx,sizeOf,typeInfo,hi,hle,hsrc.cells]
  ·have hgr:=grown 0 (by omega) (Value.ownBlock (.slice none 0 0));have hfit:Builtin.nextslicecap (0+m) 0*i.bytes≤281474976710656:=by rw[nextslicecap_zero (by omega)];omega
   refine⟨_,_,run_append_grow_src (P:=P) w t x ty e i z ht hi hz none 0 0 [] (run_firstCells_none w.drew i.size 0 0 0) (.string s) m (byteCells s) hsrc (by omega) (by omega) hfit,hgr.1,hgr.2⟩
 ·by_cases hroom:n+m≤cap
  ·have hst:=run_storeCells_at P g (n*1) e (byteCells s) 0 cur w hg (by simp only[hl,hcs];omega) hsrc1.one;simp only[Nat.add_zero,Nat.mul_one]at hst;have hr:(Builtin.append_ #[t,x] ty #[.slice (some ⟨g,0,none⟩) n cap,.string s]).run P w=.ok (.slice (some ⟨g,0,none⟩) (n+m) cap) (w.setRow g (cur.toList.take n++byteCells s++cur.toList.drop (n+(byteCells s).length)).toArray):=by
    simp[Builtin.append_,run_underlying ht,run_underlying hx,sizeOf,typeInfo,hi,hsize,hsrc1.len,hroom,hsrc1.cells,Addr.add_lit,hst]
   refine⟨_,_,hr,⟨by rw[hlen,Nat.mul_one],.inr ⟨g,cap,_,rfl,hbg,setRow_heap w g cur _ e _ hg,hroom,hcm,?_,?_⟩⟩,⟨rfl,rfl,rfl,by simp,fun k _ hk=>setRow_other w g k _ (fun e=>hk (by simp[Value.ownBlock,e]))⟩⟩
   ·simp only[List.size_toArray,List.length_append,List.length_take,List.length_drop,Array.length_toList];omega
   ·rw[Nat.mul_one]at htake;rw[htake,Nat.mul_one,←hlen];exact List.take_left
  ·have holds:∀j u,xs[j]?=some u→w.cell? ((⟨g,0,none⟩:Addr).add j)=some u:=hown.cells (g:=g) rfl;have hgr:=grown cap (by omega) (Value.ownBlock (.slice (some ⟨g,0,none⟩) n cap));have hfit:Builtin.nextslicecap (n+m) cap*i.bytes≤281474976710656:=growslice_fits (bytes:=i.bytes) (need:=n+m) (old:=cap) (by omega) hbytes;have hfo:=run_firstCells_some (P:=P) w.drew i.size n ⟨g,0,none⟩ n cap xs (by rw[hown.1,hsize]) (by simpa using holds);exact⟨_,_,run_append_grow_src (P:=P) w t x ty e i z ht hi hz (some ⟨g,0,none⟩) n cap xs hfo (.string s) m (byteCells s) hsrc (by omega) (by omega) hfit,hgr.1,hgr.2⟩
end
theorem vk(l:List Nat)(h:∀x∈l,x<256):byteCells (strOf l)=u8s l:=by
 unfold byteCells strOf u8s;simp only[List.map_map];apply List.map_congr_left
 intro x hx;show Value.int .u8 ((UInt8.ofNat x).toNat:Int)=_;rw[UInt8.toNat_ofNat_of_lt' (h x hx)]
theorem TU(l m:List Nat):u8s l++u8s m=u8s (l++m):=by simp[u8s]
theorem gU{ops:Array Oper}{rest:List Oper}{o:Oper}{a:Act}{w:World}{Q:Exit→Act→World→Prop}(hgd:o.guard=none)(s x:Operand)
  (ho:o.op=.call {callee:=.builtin .append,args:=#[s,x],argTypes:=#[87,9]}) (base:Nat) (i0:TypeInfo) (hi:prog.info? 5=some i0) (hz0:i0.zero=some (.int .u8 0)) (hz1:i0.size=1) (hz2:i0.bytes=1)
  (v:Value) (n m:Nat) (l S:List Nat) (hS:S.length=m) (hlt:∀x∈S,x<256) (hs:a.eval s=v) (hx:a.eval x=.string (strOf S)) (hown:w.ownsRow base 5 1 v n (u8s l)) (hn:n≤10000000000) (hm:m≤10000000000) (hb:base≤w.heap.size)
  (h:∀v' w',w'.ownsRow base 5 1 v' (n+m) (u8s (l++S))→w.grownBy w' v.ownBlock→wpList prog ops Q rest (a.put o.dst v') w'):wpList prog ops Q (o :: rest) a w:=
 wpList_plain hgd fun _ hK=>by
  obtain⟨v',w',hr,h2,h3⟩:=rW (P:=prog) w base 87 9 o.type 5 i0 (.int .u8 0) underlying87 underlying9 hi hz0 hz1 rfl (strOf S) m (by rw[ay,hS]) v n (u8s l) hown (by unfold maxLen;omega) (by rw[hz2];omega) hb;rw[vk S hlt,TU]at h2;unfold Oper.wp execOp;simp only[ho,resolve,invoke,builtin,Sem.run_bind,Sem.run_pure,Result.andThen_ok,List.map_toArray,List.map_cons,List.map_nil,hs,hx,hr];exact hK _ _ (h v' w' h2 h3)
theorem abZ(x:Nat):bits .or .u8 ((x:Int)%256) 128=((x%128+128:Nat):Int):=by
 have e:(x:Int)%256=((x%256:Nat):Int):=by simp
 rw[e,show(128:Int)=((128:Nat):Int)from rfl,u8_or_nat _ _ (by omega) (by omega)];congr 1
 have h:∀y,y<256→y ||| 128=y%128+128:=by decide +kernel
 rw[h _ (by omega)];omega
theorem JD{w:World}{base n b:Nat}{u:Value}{l:List Nat}(h:w.ownsRow base 5 1 u (n+1) (u8s l++[.int .u8 (b:Int)])):w.ownsRow base 5 1 u (n+1) (u8s (l++[b])):=by
 have e:u8s (l++[b])=u8s l++[.int .u8 (b:Int)]:=by simp[u8s]
 rw[e];exact h
theorem Nr(po:Option Addr)(v:Nat)(R:World→World→Prop)(w:World)(hv:v<2^64)
  (hraw:∀w',Below w.heap.size w w'→Calls prog 33 #[.pointer po,.string (strOf (grp v))] w' fun e w''=>e=.returned (.pointer po)∧R w' w'') :
  Calls prog 32 #[.pointer po,.int .u64 (v:Int)] w fun e w'=>e=.returned (.pointer po)∧∃w1,Below w.heap.size w w1∧R w1 w':=by
 obtain⟨i0,hi,hz0,hz1,hz2⟩:=info_parts jc;have fO:=hid hraw;have Hv:=hid hv;clear hraw hv;go_enter func32,ntmps32
 go_wp2_with (at_make;refine wpList_make_own _ rfl _ _ 87 rfl w.heap.size 5 i0 (.int .u8 0) 1 underlying87 hi hz0 hz1 .i64 .i64 _ 10 rfl rfl ?c1 ?c2 ?c3 ?c4 ?_)
 case c1=>rfl
 case c2=>rw[hz2];omega
 case c3=>unfold maxLen;omega
 case c4=>exact Nat.le_refl _
 intro w1 hown1 hg1;have Hb1:=hid (aJ hg1);have UJ:=hid hown1;clear hown1 hg1;go_wp2;go_loopw [1,5] (fun x u wr=>∃(y:Nat) (acc:List Nat),x=.int .u64 (y:Int)∧Hid (y<2^64)∧Hid (acc++grp y=grp v)∧Hid (wr.ownsRow w.heap.size 5 1 u acc.length (u8s acc))∧Hid (Below w.heap.size w wr)) (fun x _ _=>(intOf x).toNat)
 case atStart=>exact⟨v,[],rfl,by have:=Hv.out;omega,by simp[Hid],UJ.out,Hb1.out⟩
 case round=>
  obtain⟨y,acc,rfl,hy,hacc,hown,hbel⟩:=hrel;have IW:acc.length≤10:=by
   have h1:=congrArg List.length hacc.out;rw[List.length_append]at h1;have h2:=dx v Hv.out;omega
  by_cases hlt:128≤y
  ·go_wp2_with (at_builtin;refine wpList_append_own _ rfl _ _ 87 rfl w.heap.size 5 i0 (.int .u8 0) 1 1 underlying87 hi hz0 hz1 hz2 rfl (by decide) _ _ _ rfl (hown.out.alloc _) ⟨wr.heap.size,0,none⟩ 1 1 [.int .u8 (bits .or .u8 ((y:Int)%256) 128)] rfl rfl ?d1 ?d2 ?d3 ?d4 ?d5 ?_)
   case d1=>
    intro j u hj;match j,hj with
    | 0,hj=>simp at hj;subst hj;simp[Addr.add]
   case d2=>intro u hu;simp at hu;subst hu;rfl
   case d3=>unfold maxLen;omega
   case d4=>omega
   case d5=>have:=hbel.out.size;simp;omega
   intro u' w2 hown' hgrow _;rw[abZ]at hown';have hb':Below w.heap.size w w2:=(hbel.out.alloc hbel.out.size _).grown hgrow (by have:=hbel.out.size;simp;omega) (fun q hq=>(hown.out.lt q hq).1);have tT:=hid (JD hown');have Hb:=hid hb';clear hown' hb' hgrow hown hbel;go_wp2;go_roundw
   case rel=>
    refine⟨y/128,acc++[y%128+128],by go_num,by have:=hy.out;unfold Hid;omega,?_,?_,Hb⟩
    ·unfold Hid;rw[←hacc.out,mG y hlt hy.out,List.append_assoc];rfl
    ·rw[List.length_append];exact tT
   case measure=>simp[intOf];omega
  ·have hyB:y≤127:=by omega
   have hfin:acc++[y]=grp v:=by rw[←hacc.out,fq y (by omega)]
   have lu:=hid hfin;clear hfin hacc hlt;go_wp2_with (at_builtin;refine wpList_append_own _ rfl _ _ 87 rfl w.heap.size 5 i0 (.int .u8 0) 1 1 underlying87 hi hz0 hz1 hz2 rfl (by decide) _ _ _ rfl (hown.out.alloc _) ⟨wr.heap.size,0,none⟩ 1 1 [.int .u8 (y:Int)] rfl rfl ?d1 ?d2 ?d3 ?d4 ?d5 ?_)
   case d1=>
    intro j u hj;match j,hj with
    | 0,hj=>simp at hj;subst hj;simp[Addr.add]
   case d2=>intro u hu;simp at hu;subst hu;rfl
   case d3=>unfold maxLen;omega
   case d4=>omega
   case d5=>have:=hbel.out.size;simp;omega
   intro u' w2 hown' hgrow _;have hb':Below w.heap.size w w2:=(hbel.out.alloc hbel.out.size _).grown hgrow (by have:=hbel.out.size;simp;omega) (fun q hq=>(hown.out.lt q hq).1);have hown2:=JD hown';rw[lu.out]at hown2;have hlen:acc.length+1=(grp v).length:=by rw[←lu.out];simp
   obtain⟨A,c,rfl,hr,_⟩:=dM hown2;have bO:=bP w2 A c (grp v) (jX v Hv.out) hr;rw[hlen];have Hb:=hid hb';have adX:=hid (fO.out w2 hb');clear hown' hb' hgrow hown hbel hown2 hr hlen IW lu fO;generalize strOf (grp v)=str at bO adX;generalize (grp v).length=len at bO ⊢;go_wp2_with fail
   refine adX.out.mono ?_;rintro e w' ⟨rfl,hR⟩;have HR:=hid hR;clear hR;go_wp2;go_ret;exact⟨rfl,w2,Hb.out,HR.out⟩
theorem iR(b v:Nat)(bs:List Nat)(w:World)(hv:v<2^64)(hl:bs.length≤100000000)(h:CW w b bs) :
  Calls prog 32 #[.pointer (some ⟨b,0,none⟩),.int .u64 (v:Int)] w fun e w'=>e=.returned (.pointer (some ⟨b,0,none⟩))∧CW w' b (bs++grp v)∧w.grownBy w' (some b):=by
 have h10:=dx v hv;exact(Nr (some ⟨b,0,none⟩) v (fun w1 w'=>CW w' b (bs++grp v)∧w1.grownBy w' (some b)) w hv (fun w' hb=>gX b bs _ w' (by omega) (h.below hb))).mono
  fun e w' ⟨he,w1,hb,hc,hg⟩=>⟨he,hc,aA (ak hb _) hg⟩
theorem qL(b:Nat)(bs s:List Nat)(w:World)(hl:bs.length≤10000000)(hs:s.length≤10000000)(h:CW w b bs) :
  Calls prog 63 #[.pointer (some ⟨b,0,none⟩),.string (strOf s)] w fun e w'=>e=.returned (.pointer (some ⟨b,0,none⟩))∧CW w' b (bs++(grp s.length++s))∧w.grownBy w' (some b):=by
 have h10:=dx s.length (by omega);have Hg:=hid (iR b s.length bs w (by omega) (by omega) h);have Hr:=hid (fun w1 h1=>gX b (bs++grp s.length) s w1 (by rw[List.length_append];omega) h1);have hsz:=ay s;clear h;generalize strOf s=str at hsz Hr ⊢;go_enter func63,ntmps63
 go_wp2_with fail
 refine Hg.out.mono ?_;rintro e w1 ⟨rfl,hc,hg⟩;have Hc:=hid (Hr.out w1 hc);have Hg1:=hid hg;clear hc hg;go_wp2_with fail
 refine Hc.out.mono ?_;rintro e w2 ⟨rfl,hc,hg⟩;rw[List.append_assoc]at hc;have Hc2:=hid hc;have Hg2:=hid hg;clear hc hg;go_wp2;go_ret;exact⟨rfl,Hc2.out,aA Hg1.out Hg2.out⟩
theorem ahr{n:Int}{k:Nat}(h:k<fx n):(k:Int)<n∧k<8:=by unfold fx at h;omega
theorem aeF{n:Int}{k:Nat}(h:k=fx n):n≤(k:Int)∨k=8:=by unfold fx at h;omega
theorem Ai(w:World)(x:Nat)(h:x<256):(convert 87 9 (.slice (some ⟨w.heap.size,0,none⟩) 1 1)).run prog (w.alloc (.cells #[.int .u8 (x:Int)] 5))=.ok (.string (strOf [x])) (w.alloc (.cells #[.int .u8 (x:Int)] 5)):=
 Vq _ _ _ h ((Row.new w 5 [.int .u8 (x:Int)]).cell 0) 1
theorem JK(X d:Nat)(h:X<2^64):IntKind.u64.wrap ((X:Int)/(d:Int))=((X/d:Nat):Int):=by
 have:=Nat.div_le_self X d;rw[show(X:Int)/(d:Int)=((X/d:Nat):Int) by simp,nN _ (by omega)]
theorem Lb(v:Nat)(n:Int)(w:World)(hv:v<2^64) :
  Calls prog 29 #[.int .u64 (v:Int),.int .i64 n] w fun e w'=>e=.returned (.string (strOf (Bm.bytesOf v (fx n))))∧Below w.heap.size w w':=by
 obtain⟨m,hm⟩:∃m,m=fx n:=⟨_,rfl⟩;have hm8:=aaT n;rw[←hm]at hm8 ⊢;have Hm:=hid hm;have Hv:=hid hv;obtain⟨all,hall⟩:∃s,s=strOf (Bm.bytesOf v m):=⟨_,rfl⟩;rw[←hall];have BJ:=hid hall;clear hm hv hall;go_enter func29,ntmps29
 go_wp2;go_loopw [0,5,6] (fun x s i wr=>∃k:Nat,k≤m∧x=.int .u64 ((v/256^k:Nat):Int)∧s=.string (strOf (Bm.bytesOf v k))∧i=.int .i64 (k:Int)∧Hid (Below w.heap.size w wr)) (fun _ _ i _=>m-(intOf i).toNat)
 case atStart=>exact⟨0,by omega,by simp,rfl,rfl,Below.refl _ _⟩
 case round=>
  obtain⟨k,hk,rfl,rfl,rfl,hbel⟩:=hrel;have hadd:=fun b W=>jM (Bm.bytesOf v k) [b] (by rw[Bm.bytesOf_length];simp;omega) W
  have hstep:=iw v k;have hX:v/256^k/256=v/256^(k+1):=by rw[Nat.div_div_eq_div_mul,Nat.pow_succ]
  have HX:=hid hX;have jI:=hid hstep;clear hX hstep;by_cases hlt:k<m
  ·have h2:=ahr (n:=n) (k:=k) (by rw[←Hm.out];exact hlt);obtain⟨hkn,hk8⟩:=h2;have bO:=Ai wr (v/256^k%256) (by omega);have PY:=hadd (v/256^k%256);rw[←jI.out]at PY;clear hadd jI;have hXv:v/256^k<2^64:=Nat.lt_of_le_of_lt (Nat.div_le_self _ _) Hv.out;have Hw:=hid (JK (v/256^k) 256 hXv);clear hXv;generalize v/256^k=X at bO PY HX Hw ⊢;rw[show((X%256:Nat):Int)=(X:Int)%256 by simp]at bO;generalize strOf (Bm.bytesOf v k)=s0 at PY ⊢;generalize hs1:strOf (Bm.bytesOf v (k+1))=s1 at PY;generalize strOf [X%256]=s2 at bO PY;have Hs1:=hid hs1;clear hs1;go_wp2;have hw:=Hw.out;simp only[Int.cast_ofNat_Int]at hw;rw[hw];go_roundw
   case rel=>exact⟨k+1,by omega,by rw[←HX.out],by rw[Hs1.out],by go_num,hbel.out.alloc hbel.out.size _⟩
   case measure=>simp[intOf];omega
  ·obtain rfl:k=m:=by omega
   clear hadd jI HX;generalize v/256^k=X;rw[←BJ.out];rcases aeF Hm.out with h | rfl
   ·go_wp2;go_ret;exact⟨rfl,hbel.out⟩
   ·by_cases hn8:(8:Int)<n
    ·go_wp2;go_ret;exact⟨rfl,hbel.out⟩
    ·go_wp2;go_ret;exact⟨rfl,hbel.out⟩
theorem qY(v:Nat)(w:World)(hv:v<2^64) :
  Calls prog 27 #[.int .u64 (v:Int)] w fun e w'=>e=.returned (.string (strOf (grp v)))∧Below w.heap.size w w':=by
 have Hv:=hid hv;obtain⟨all,hall⟩:∃s,s=strOf (grp v):=⟨_,rfl⟩;rw[←hall];have BJ:=hid hall;clear hv hall;go_enter func27,ntmps27
 go_wp2;go_loopw [0,3] (fun x s wr=>∃(y:Nat) (acc:List Nat),x=.int .u64 (y:Int)∧s=.string (strOf acc)∧Hid (y<2^64)∧Hid (acc++grp y=grp v)∧Hid (Below w.heap.size w wr)) (fun x _ _=>(intOf x).toNat)
 case atStart=>exact⟨v,[],rfl,rfl,Hv,by simp[Hid],Below.refl _ _⟩
 case round=>
  obtain⟨y,acc,rfl,rfl,hy,hacc,hbel⟩:=hrel;have IW:acc.length≤10:=by
   have h1:=congrArg List.length hacc.out;rw[List.length_append]at h1;have h2:=dx v Hv.out;omega
  by_cases hlt:128≤y
  ·have bO:=Ai wr (y%128+128) (by omega);have hadd:=fun W=>jM acc [y%128+128] (by simp;omega) W
   rw[show((y%128+128:Nat):Int)=(y:Int)%128+128 by simp]at bO;have hnext:acc++[y%128+128]++grp (y/128)=grp v:=by
    rw[←hacc.out,mG y hlt hy.out,List.append_assoc];rfl
   have xY:=hid hnext;clear hnext hacc IW;generalize strOf [y%128+128]=s2 at bO hadd;generalize hs1:strOf (acc++[y%128+128])=s1 at hadd;generalize strOf acc=s0 at hadd ⊢;have Hs1:=hid hs1;clear hs1;go_wp2;have hw:=JK y 128 hy.out;simp only[Int.cast_ofNat_Int]at hw;rw[hw];go_roundw
   case rel=>exact⟨y/128,acc++[y%128+128],rfl,by rw[Hs1.out],by have:=hy.out;unfold Hid;omega,xY,hbel.out.alloc hbel.out.size _⟩
   case measure=>simp[intOf];omega
  ·have hyB:y≤127:=by omega
   have hfin:acc++[y]=grp v:=by rw[←hacc.out,fq y (by omega)]
   have bO:=Ai wr y (by omega);have hadd:=fun W=>jM acc [y] (by simp;omega) W
   rw[hfin,←BJ.out]at hadd;clear hfin hacc hlt IW;generalize strOf [y]=s2 at bO hadd;generalize strOf acc=s0 at hadd ⊢;go_wp2;go_ret;exact⟨rfl,hbel.out.alloc hbel.out.size _⟩
theorem PU(s:List Nat)(w:World)(hs:s.length≤10000000) :
  Calls prog 28 #[.string (strOf s)] w fun e w'=>e=.returned (.string (strOf (grp s.length++s)))∧Below w.heap.size w w':=by
 have h10:=dx s.length (by omega);have Hg:=hid (qY s.length w (by omega));have hadd:=fun W=>jM (grp s.length) s (by omega) W
 have hsz:=ay s;generalize strOf (grp s.length++s)=s1 at hadd ⊢;generalize strOf s=str at hsz hadd ⊢;generalize strOf (grp s.length)=s2 at hadd Hg;go_enter func28,ntmps28
 go_wp2_with fail
 refine Hg.out.mono ?_;rintro e w1 ⟨rfl,hb⟩;go_wp2;go_ret;exact⟨rfl,hb⟩
theorem Ij(l:List Nat)(k:Nat)(h:k<l.length):aS (l.drop k)=aS (l.drop (k+1))*256+l[k]:=by
 rw[List.drop_eq_getElem_cons h];simp only[aS];omega
theorem Le(l:List Nat)(w:World)(hl:l.length≤8)(hlt:∀x∈l,x<256) :
  Calls prog 26 #[.string (strOf l)] w fun e w'=>e=.returned (.int .u64 (aS l:Int))∧w=w':=by
 have hsz:=ay l;have hidx:∀(i:Nat) (W:World) (hi:i<l.length),(Instr.index 9 (.string (strOf l)) (.int .i64 (i:Int))).run prog W=.ok (.int .u8 ((l[i]:Nat):Int)) W:=fun i W hi=>jD l i W hi (hlt _ (List.getElem_mem hi))
 have hb:∀k,aS (l.drop k)<2^64:=fun k=>by
  have h1:=jP (l.drop k) (bZ hlt k);have h2:256^(l.drop k).length≤256^8:=Nat.pow_le_pow_right (by omega) (by rw[List.length_drop];omega);have h3:(256:Nat)^8=2^64:=by decide
  omega
 have qQ:=hid hidx;have Hb:=hid hb;have Hlt:=hid hlt;obtain⟨res,hres⟩:∃r,r=aS l:=⟨_,rfl⟩;rw[←hres];have dQ:=hid hres;clear hidx hb hlt hres;generalize strOf l=s at hsz qQ ⊢;go_enter func26,ntmps26
 go_wp2;go_loop [3,4] (fun v i=>∃k:Nat,k≤l.length∧i=.int .i64 ((k:Int)-1)∧v=.int .u64 (aS (l.drop k):Int)) (fun _ i=>(intOf i+1).toNat)
 case atStart=>exact⟨l.length,Nat.le_refl _,rfl,by simp[aS]⟩
 case round=>
  obtain⟨k,hk,rfl,rfl⟩:=hrel;rcases k with _ | k
  ·rw[List.drop_zero,←dQ.out];go_wp2;go_ret;exact⟨rfl,rfl⟩
  ·have hx:=fun W=>qQ.out k W (by omega)
   have hv:=Ij l k (by omega);have hb1:=Hb.out k;have hl8:=Hlt.out l[k] (List.getElem_mem (by omega));rw[hv]at hb1;have Hv:=hid hv;clear hv;rw[show((k+1:Nat):Int)-1=(k:Int) by omega];generalize l[k]=x at hx hb1 hl8 Hv;generalize aS (l.drop (k+1))=V at hb1 Hv ⊢;have hV:V≤72057594037927935:=by omega
   go_wp2;go_round
   case rel=>exact⟨k,by omega,by go_num,by rw[Hv.out];go_num⟩
   case measure=>simp[intOf]
end Go.Proofs.YtgiicohbigiapaaGreat
