/- Contracts, and what they rest on. Conditions: the theorems' premises. -/
import Derived.Test.YtgiicohbigiapaaGreatYad
set_option maxHeartbeats 4000000
set_option maxRecDepth 100000
open Go.Lib(hid)
open Go.Proofs.Tryz
namespace Go.Proofs.YtgiicohbigiapaaGreat
open Go.RowKit Go.Shelf
def YB(a b:Int):Int:=if a<b then -1 else if b<a then 1 else 0
theorem Yf(a:Int)(w:World):Calls prog 135 #[.int .i64 a] w fun e w'=>e=.returned (.bool false)∧w=w':=by
 have h:(a != a)=false:=by simp
 go_enter func135,ntmps135
 go_wp2;go_ret;exact⟨rfl,rfl⟩
theorem Yc(a b:Int)(w:World):Calls prog 104 #[.int .i64 a,.int .i64 b] w fun e w'=>e=.returned (.int .i64 (YB a b))∧w=w':=by
 have Hn:=hid (fun a=>Yf a w);unfold YB;by_cases h1:a<b
 ·rw[if_pos h1];have d1:decide (a<b)=true:=decide_eq_true h1;clear h1;go_enter func104,ntmps104
  go_wp2_with fail
  refine(Hn.out _).mono ?_;rintro e w' ⟨rfl,rfl⟩;go_wp2_with fail
  refine(Hn.out _).mono ?_;rintro e w' ⟨rfl,rfl⟩;go_wp2;go_ret;exact⟨rfl,rfl⟩
 ·rw[if_neg h1];have d1:decide (a<b)=false:=decide_eq_false h1;by_cases h2:b<a
  ·rw[if_pos h2];have d2:decide (b<a)=true:=decide_eq_true h2;clear h1 h2;go_enter func104,ntmps104
   go_wp2_with fail
   refine(Hn.out _).mono ?_;rintro e w' ⟨rfl,rfl⟩;go_wp2_with fail
   refine(Hn.out _).mono ?_;rintro e w' ⟨rfl,rfl⟩;go_wp2;go_ret;exact⟨rfl,rfl⟩
  ·rw[if_neg h2];have d2:decide (b<a)=false:=decide_eq_false h2;clear h1 h2;go_enter func104,ntmps104
   go_wp2_with fail
   refine(Hn.out _).mono ?_;rintro e w' ⟨rfl,rfl⟩;go_wp2_with fail
   refine(Hn.out _).mono ?_;rintro e w' ⟨rfl,rfl⟩;go_wp2;go_ret;exact⟨rfl,rfl⟩
theorem TL(s t:List Nat)(w:World):Calls prog 103 #[.string (strOf s),.string (strOf t)] w fun e w'=>e=.returned (.int .i64 (YB s.length t.length))∧w=w':=by
 have Hc:=hid (Yc s.length t.length w);have h1:=aA s;have h2:=aA t;generalize s.length=m at *;generalize t.length=n at *;generalize strOf s=s' at *;generalize strOf t=t' at *;generalize YB (m:Int) (n:Int)=r at *;go_enter func103,ntmps103
 go_wp2_with fail
 refine Hc.out.mono ?_;rintro e w' ⟨rfl,rfl⟩;go_wp2;go_ret;exact⟨rfl,rfl⟩
def kR(ss:List (List Nat)):List Value:=ss.map fun s=>.string (strOf s)
theorem iw(ss:List (List Nat)):(kR ss).length=ss.length:=by simp[kR]
theorem Mx(ss:List (List Nat))(i:Nat)(h:i<ss.length):(kR ss)[i]?=some (.string (strOf ss[i])):=by simp[kR,h]
theorem UW:∀args w,(callFunc 103 args).run prog w=.ok (.enter 103 args) w:=enters_of func103 (by kernel_rfl) rfl
theorem Ye(A:Option Addr)(c:Nat)(ss:List (List Nat))(w:World)(h0:0<ss.length)(hl:ss.length≤1000000)(hr:Reads w A (kR ss)) :
  Calls prog 101 #[.slice A ss.length c,.func (.func 103) #[] #[]] w fun e w'=>(∃m∈ss,(∀s∈ss,m.length≤s.length)∧(∀f,ss[0]?=some f→m.length=f.length→m=f)∧e=.returned (.string (strOf m)))∧w=w':=by
 obtain⟨g,off,rfl,hc⟩:=hr (by intro e;have:=iw ss;rw[e]at this;simp at this;omega);have hc2:∀j (h:j<ss.length),w.cell? ⟨g,off+j,none⟩=some (.string (strOf ss[j])):=fun j h=>by rw[hc j (by rw[iw];exact h),Mx ss j h]
 have Hc:=hid hc2;have c0:=hc2 0 h0;rw[Nat.add_zero]at c0;have Hs0:Hid (ss[0]∈ss∧∀s∈ss.take 1,ss[0].length≤s.length):=hid ⟨List.getElem_mem h0,fun s hs=>by
  have e:ss.take 1=[ss[0]]:=by
   cases ss with
   | nil=>simp at h0
   | cons x r=>rfl
  rw[e,List.mem_singleton]at hs;rw[hs];exact Nat.le_refl _⟩
 have Hz:Hid (ss[0]?=some ss[0]):=hid (List.getElem?_eq_getElem h0);generalize ss[0]=s0 at *;have Hl:=hid (fun a b=>TL a b w);have ec:=UW;clear hr hc hc2;go_enter func101,ntmps101
 go_wp2;go_loopw [5,6] (fun m i wr=>wr=w∧∃(k:Nat) (mm:List Nat),m=.string (strOf mm)∧i=.int .i64 (k:Int)∧1≤k∧k≤ss.length∧Hid (mm∈ss∧(∀s∈ss.take k,mm.length≤s.length)∧mm.length≤s0.length∧(mm.length=s0.length→mm=s0))) (fun _ i _=>ss.length-(intOf i).toNat)
 case atStart=>exact⟨rfl,1,s0,rfl,rfl,by omega,by omega,hid ⟨Hs0.out.1,Hs0.out.2,Nat.le_refl _,fun _=>rfl⟩⟩
 case round=>
  obtain⟨rfl,k,mm,rfl,rfl,hk1,hk,hmm⟩:=hrel;clear c0 Hs0;by_cases hkl:k<ss.length
  ·have c1:=Hc.out k hkl;have bB:=hid (Hl.out ss[k] mm);have Htk:Hid (ss.take (k+1)=ss.take k++[ss[k]]):=hid (by rw[List.take_add_one,List.getElem?_eq_getElem hkl];rfl);have Hin:=hid (List.getElem_mem hkl);generalize ss[k]=sk at *;by_cases hlt:sk.length<mm.length
   ·have hz:YB (sk.length:Int) (mm.length:Int)=-1:=by unfold YB;rw[if_pos (by omega)]
    rw[hz]at bB;have Hn:Hid (sk∈ss∧(∀s∈ss.take (k+1),sk.length≤s.length)∧sk.length≤s0.length∧(sk.length=s0.length→sk=s0)):=hid ⟨Hin.out,fun s hs=>by
     rw[Htk.out]at hs;rcases List.mem_append.1 hs with hs | hs
     ·have:=hmm.out.2.1 s hs;omega
     ·rw[List.mem_singleton.1 hs];exact Nat.le_refl _,by have:=hmm.out.2.2.1;omega,fun h=>by have:=hmm.out.2.2.1;omega⟩
    clear hlt hz hmm Hl;go_wp2_with fail
    refine bB.out.mono ?_;rintro e w' ⟨rfl,rfl⟩;go_wp2;go_roundw
    case rel=>exact⟨trivial,k+1,sk,rfl,by go_num,by omega,by omega,Hn⟩
    case measure=>simp[intOf];omega
   ·obtain⟨z,hz,hz0⟩:∃z,YB (sk.length:Int) (mm.length:Int)=z∧0≤z:=⟨_,rfl,by unfold YB;rw[if_neg (by omega)];split<;>omega⟩;rw[hz]at bB;have dz:decide (z<0)=false:=decide_eq_false (by omega);have Hn:Hid (mm∈ss∧(∀s∈ss.take (k+1),mm.length≤s.length)∧mm.length≤s0.length∧(mm.length=s0.length→mm=s0)):=hid ⟨hmm.out.1,fun s hs=>by
     rw[Htk.out]at hs;rcases List.mem_append.1 hs with hs | hs
     ·exact hmm.out.2.1 s hs
     ·rw[List.mem_singleton.1 hs];omega,hmm.out.2.2⟩
    clear hlt hz hmm hz0 Hl;go_wp2_with fail
    refine bB.out.mono ?_;rintro e w' ⟨rfl,rfl⟩;go_wp2;go_roundw
    case rel=>exact⟨trivial,k+1,mm,rfl,by go_num,by omega,by omega,Hn⟩
    case measure=>simp[intOf];omega
  ·obtain rfl:k=ss.length:=by omega
   have gT:Hid (∃m∈ss,(∀s∈ss,m.length≤s.length)∧(∀f,ss[0]?=some f→m.length=f.length→m=f)∧strOf mm=strOf m):=hid ⟨mm,hmm.out.1,by have:=hmm.out.2.1;rwa [List.take_length]at this,fun f hf he=>by rw[Hz.out]at hf;injection hf with hf;subst hf;exact hmm.out.2.2.2 he,rfl⟩;clear hmm Hl;generalize strOf mm=sm at *;go_wp2;go_ret;obtain⟨m,h1,h2,h3,h4⟩:=gT.out;exact⟨⟨m,h1,h2,h3,congrArg (fun x=>Ending.returned (Value.string x)) h4⟩,rfl⟩
theorem Yd(k:Nat)(hk:k<256):([]:List Nat)++Bm.bytesOf k (fx 1)=[k]:=by
 have e:fx 1=1:=rfl;rw[e,List.nil_append];have h:k%256=k:=Nat.mod_eq_of_lt hk;simp[Bm.bytesOf,h]
theorem rV(k:Nat)(w:World)(hk:k<256):Calls prog 133 #[.int .u64 (k:Int)] w fun e w'=>∃b,e=.returned (.pointer (some ⟨b,0,none⟩))∧CW w' b [k]∧w.heap.size≤b∧Below w.heap.size w w':=by
 have hn:=CW.new w;have hb:=(Below.refl w.heap.size w).alloc (Nat.le_refl _) (.cells #[.pointer none,.int .i64 0] 62);have hx:=nG w.heap.size k 1 [] _ (by omega) (by omega) (by omega) (by simp) hn;rw[Yd k hk]at hx;have Hx:=hid hx;have Hb:=hid hb;clear hx hn hb;go_enter func133,ntmps133
 go_wp2_with fail
 refine Hx.out.mono ?_;rintro e w1 ⟨rfl,hc1,hg1⟩;have Hc1:=hid hc1;have Hb1:=hid (Hb.out.trans (below_grown hg1 (Nat.le_refl _) Hb.out.size));clear hc1 hg1;go_wp2;go_ret;exact⟨_,rfl,Hc1.out,Nat.le_refl _,Hb1.out⟩
end Go.Proofs.YtgiicohbigiapaaGreat
