/- Contracts, and what they rest on. Conditions: the theorems' premises. -/
import Derived.Test.YtgiicohbigiapaaGreatRan
import Derived.Test.YtgiicohbigiapaaGreatRau
import Derived.Test.YtgiicohbigiapaaGreatRaf
set_option maxHeartbeats 4000000
set_option maxRecDepth 100000
open Go.Lib(hid)
open Go.Proofs.Tryz Go.Proofs.YtgiicohbigiapaaGreat.Bm
namespace Go.Proofs.YtgiicohbigiapaaGreat
open Go.RowKit
theorem Sm{w:World}{g off:Nat}{xs:List Value}(h:Reads w (some ⟨g,off,none⟩) xs)(hne:xs≠[]):g<w.heap.size:=by
 obtain⟨g',off',e,hc⟩:=h hne;injection e with e
 injection e with e1 e2
 subst e1 e2;have h0:0<xs.length:=List.length_pos_iff.2 hne;have h1:=hc 0 h0;rw[List.getElem?_eq_getElem h0]at h1;exact World.block_lt_of_cell? w _ h1
theorem CY(x:Nat)(w:World)(hx:x<4294967296) :
  Calls prog 196 #[.int .i64 (x:Int)] w fun e w'=>e=.returned (.int .i64 (Bm.wid x:Int))∧w=w':=by
 have H:=hid (iG x w hx);have hcu:IntKind.u32.wrap (x:Int)=(x:Int):=by simp[IntKind.wrap,IntKind.bits,IntKind.signed];omega
 go_enter func196,ntmps196
 go_wp2_with fail
 refine H.out.mono ?_;rintro e w' ⟨rfl,rfl⟩;go_wp2;go_ret;exact⟨rfl,rfl⟩
theorem bF{w w1 w2:World}{row:Option Nat}(h:w.grownBy w1 row)(h2:w1.grownBy w2 row):w.grownBy w2 row:=
 ⟨h2.os.trans h.os,h2.tape.trans h.tape,h2.output.trans h.output,Nat.le_trans h.size h2.size,fun i hi hne=>(h2.block i (Nat.lt_of_lt_of_le hi h.size) hne).trans (h.block i hi hne)⟩
theorem Dc(log:Nat)(h5:5≤log)(h9:log≤9):32≤2^log∧2^log≤512:=
 ⟨Nat.pow_le_pow_right (n:=2) (i:=5) (by omega) h5,Nat.pow_le_pow_right (n:=2) (j:=9) (by omega) h9⟩
theorem Qn{w:World}{A:Option Addr}{l:List Nat}(h:Reads w A (aM l))(hne:0<l.length):∃g off,A=some ⟨g,off,none⟩∧∀j (hj:j<l.length),w.cell? ⟨g,off+j,none⟩=some (.int .i64 (l[j]:Int)):=by
 rw[←bJ]at h;obtain⟨g,off,e,hc⟩:=nG h (by simpa using hne);exact⟨g,off,e,fun j hj=>by have:=hc j (by simpa using hj);simpa using this⟩
namespace Bm
theorem VX(l:List Nat):gG l 0=(0,0):=by cases l<;>simp[gG]
theorem YC:wid 0=0:=by decide +kernel
theorem VW(x:Nat)(l:List Nat)(R:Nat)(h:x≤R):gG (x :: l) R=(x+(gG l (R-x)).1*2^wid R,wid R+(gG l (R-x)).2):=by
 rw[gG];split
 ·next h0=>
  subst h0;obtain rfl:x=0:=by omega
  simp[VX,YC]
 ·rfl
theorem uM(M x m k H:Nat):M+(x+H*2^k)*2^m=M+x*2^m+H*2^(m+k):=by
 rw[Nat.add_mul,Nat.mul_assoc,←Nat.pow_add,Nat.add_comm k m,Nat.add_assoc]
end Bm
theorem Ll(w:World)(b off N n:Nat)(A:Option Addr)(c:Nat)(ls:List Nat)(lg:Nat)(hn:n≤100000)(hws:WS w b off N n)(hr:Reads w A (aM ls))(hA:∀a,A=some a→a.block≠b)(hf:bL ls lg)
  (hfair:Calls prog 195 #[.slice A ls.length c,.int .i64 (lg:Int)] w fun e w'=>e=.returned (.bool true)∧Below w.heap.size w w') :
  Calls prog 164 #[.pointer (some ⟨b,off,none⟩),.slice A ls.length c,.int .i64 (lg:Int)] w fun e w'=>e=.returned (.bool true)∧WS w' b off (N+(jl ls lg).1*2^n) (n+(jl ls lg).2)∧w.grownBy w' (some b):=by
 have h5:=hf.low;have h9:=hf.high;have hP:=Dc lg h5 h9;have Da:=hf.len;have hsum:=hf.sum;have hcu:IntKind.u32.wrap ((lg:Int)-5)=((lg-5:Nat):Int):=by simp[IntKind.wrap,IntKind.bits,IntKind.signed];omega
 have hwr:wrap64 ((lg:Int)-5)=(lg:Int)-5:=jk _ (by omega) (by omega);obtain⟨T,hT⟩:∃T,T=N+(jl ls lg).1*2^n:=⟨_,rfl⟩;obtain⟨C,hC⟩:∃C,C=n+(jl ls lg).2:=⟨_,rfl⟩;rw[←hT,←hC];unfold jl at hT hC;dsimp only at hT hC;obtain⟨S,hS⟩:∃S,S=2^lg:=⟨_,rfl⟩;rw[←hS]at hT hC hP hsum;have hpd:(2:Int)^lg=(S:Int):=by rw[hS];simp
 have hw64:wrap64 (S:Int)=(S:Int):=jk _ (by omega) (by omega);have HT:=hid hT;have HC:=hid hC;have Hws:=hid hws;have Hr:=hid hr;have HA:=hid hA;have NU:=hid hfair;have zU:Hid (∀(W:World) (N n v m:Nat),n≤1000000000→v<4294967296→m≤32→WS W b off N n→Calls prog 99 #[.pointer (some ⟨b,off,none⟩),.int .u32 (v:Int),.int .i64 (m:Int)] W fun e w'=>e=.returned (.bool true)∧WS w' b off (N+v%2^m*2^n) (n+m)∧W.grownBy w' (some b)):=hid (fun W N n v m h1 h2 h3 h4=>qm b off N n v m W h1 h2 h3 h4);clear hT hC hws hr hA hf hfair hS;go_enter func164,ntmps164
 go_wp2_with fail
 refine NU.out.mono ?_;rintro e w1 ⟨rfl,hb1⟩;have Hg1:=hid (ak hb1 (some b));have aiW:=hid (Hws.out.below hb1);have Hr1:=hid (aC Hr.out hb1);clear hb1 Hws Hr NU;go_wp2_with fail
 refine(zU.out w1 N n (lg-5) 3 (by omega) (by omega) (by omega) aiW.out).mono ?_;rintro e w2 ⟨rfl,aks,hg2⟩;have Hg2:=hid (bF Hg1.out hg2);have ali:=hid aks;have Hr2:Hid (∀W,w1.grownBy W (some b)→Reads W A (aM ls)):=hid (fun W hg hne=>by
  obtain⟨g,off,e,hc⟩:=Hr1.out hne;refine⟨g,off,e,fun j hj=>?_⟩;have h1:=hc j hj;rw[List.getElem?_eq_getElem hj]at h1 ⊢;exact(World.cell?_of_block (a:=⟨g,off+j,none⟩) (hg.block g (World.block_lt_of_cell? w1 _ h1) (fun e2=>HA.out _ e (by injection e2)))).trans h1)
 have akL:=hid hg2;clear aks hg2 Hg1 aiW Hr1 hcu hwr;go_wp2;clear hpd hw64;have ahf:Hid (∀(x:Nat) (W:World),x<4294967296→Calls prog 196 #[.int .i64 (x:Int)] W fun e w'=>e=.returned (.int .i64 (Bm.wid x:Int))∧W=w'):=hid CY;go_loopw [7,27] (fun q i wr=>∃k R M m:Nat,k≤ls.length∧i=.int .i64 (k:Int)∧q=.int .i64 (R:Int)∧R=(ls.drop k).sum∧R≤512∧m≤n+3+10*k∧Hid (WS wr b off M m)∧Hid (w1.grownBy wr (some b))∧Hid (w.grownBy wr (some b)) ∧
  Hid (T=M+(gG (ls.drop k) R).1*2^m∧C=m+(gG (ls.drop k) R).2)) (fun _ i _=>ls.length-(intOf i).toNat)
 case atStart=>
  refine⟨0,S,_,_,by omega,rfl,rfl,hsum.symm,by omega,by omega,ali,akL,Hg2,hid ⟨?_,?_⟩⟩
  ·rw[HT.out,List.drop_zero,Nat.mod_eq_of_lt (show lg-5<2^3 by omega)];exact Bm.uM N (lg-5) n 3 _
  ·rw[HC.out,List.drop_zero];omega
 case round=>
  obtain⟨k,R,M,m,hk,rfl,rfl,hR,hR5,hm,hws,hg1,hgw,htot⟩:=hrel;by_cases hkl:k<ls.length
  ·have hd:=List.drop_eq_getElem_cons hkl;rw[hd,List.sum_cons]at hR;obtain⟨g,og,rfl,hc⟩:=Qn (Hr2.out _ hg1.out) (by omega);have c0:=hc k hkl;have UO:=hid htot.out;rw[hd,VW ls[k] (ls.drop (k+1)) R (by omega)]at UO;have Hdr:Hid (R-ls[k]=(ls.drop (k+1)).sum):=hid (by omega);have hx:ls[k]≤R:=by omega
   clear hc htot hd hR;generalize ls[k]=x at *;have hwd:=qK R;have akr:=eB R 10 (by omega);have hcu:IntKind.u32.wrap (x:Int)=(x:Int):=by simp[IntKind.wrap,IntKind.bits,IntKind.signed];omega
   have Hp:=hid (zU.out _ M m x (Bm.wid R) (by omega) (by omega) (by omega) hws.out);rw[Nat.mod_eq_of_lt (show x<2^Bm.wid R by omega)]at Hp;have hrx:((R-x:Nat):Int)=(R:Int)-(x:Int):=by omega
   have hwq:wrap64 ((R:Int)-(x:Int))=(R:Int)-(x:Int):=jk _ (by omega) (by omega);have Ht:Hid (T=M+x*2^m+(gG (ls.drop (k+1)) (R-x)).1*2^(m+Bm.wid R)∧C=m+Bm.wid R+(gG (ls.drop (k+1)) (R-x)).2):=hid ⟨by rw[UO.out.1];exact Bm.uM _ _ _ _ _,by rw[UO.out.2];dsimp only;omega⟩;clear UO hwd;have Hw:=hid (ahf.out R wr (by omega));generalize Bm.wid R=wd at *;go_wp2_with fail
   refine Hw.out.mono ?_;rintro e w' ⟨rfl,rfl⟩;go_wp2_with fail
   refine Hp.out.mono ?_;rintro e w3 ⟨rfl,Zt,hg3⟩;have adl:=hid Zt;have Hg3:=hid (bF hg1.out hg3);have akM:=hid (bF hgw.out hg3);clear Zt hg3 hws hg1 hgw Hp;go_wp2;go_roundw
   case rel=>exact⟨k+1,R-x,_,_,by omega,by go_num,by rw[hrx],Hdr.out,by omega,by omega,adl,Hg3,akM,Ht⟩
   case measure=>simp[intOf];omega
  ·obtain rfl:k=ls.length:=by omega
   have Ht:=htot.out;rw[List.drop_length]at Ht;simp only[gG,Nat.zero_mul,Nat.add_zero]at Ht;obtain⟨rfl,rfl⟩:=Ht;go_wp2;go_ret;exact⟨rfl,hws.out,hgw.out⟩
theorem PL{A:Option Addr}{c:Nat}{l:List Int}{log:Int}{w:World}(hl:l.length≤1000000)(hok:∀x∈l,bM x)(Av:bM log)(hr:Reads w A (lQ l))(hf:Bm.Fair l log) :
  Calls prog 195 #[.slice A l.length c,.int .i64 log] w fun e w'=>e=.returned (.bool true)∧Below w.heap.size w w':=by
 have h1:=vX A c l log w hl hok Av hr;rw[show Fh l log=true from decide_eq_true hf]at h1;exact h1
theorem Qc(w:World)(b off N n:Nat)(A:Option Addr)(c:Nat)(l:List Int)(log:Int)(hn:n≤100000)(hws:WS w b off N n)(hl:l.length≤1000000)(hok:∀x∈l,bM x)(Av:bM log)(hr:Reads w A (lQ l))(hA:∀a,A=some a→l≠[]→a.block≠b)(hf:Bm.Fair l log) :
  Calls prog 164 #[.pointer (some ⟨b,off,none⟩),.slice A l.length c,.int .i64 log] w fun e w'=>e=.returned (.bool true)∧WS w' b off (N+(jl (l.map Int.toNat) log.toNat).1*2^n) (n+(jl (l.map Int.toNat) log.toNat).2)∧w.grownBy w' (some b):=by
 have hfr:=PL (c:=c) hl hok Av hr hf;have hfn:=PK l log hf;have hmap:=IQ l log hf;have hl9:(log.toNat:Int)=log:=by have:=hf.1;omega
 have hne:l≠[]:=by
  rintro rfl;have h1:=hfn.sum;have h2:=Nat.two_pow_pos log.toNat;simp at h1;omega
 have hls:aM (l.map Int.toNat)=lQ l:=by rw[←bJ,hmap]
 have hlen:(l.map Int.toNat).length=l.length:=by simp
 rw[←hls]at hr;have h:=Ll w b off N n A c (l.map Int.toNat) log.toNat hn hws hr (fun a e=>hA a e hne) hfn (by rw[hlen,hl9];exact hfr);rw[hlen,hl9]at h;exact h
theorem Nv(c:Nat)(w:World)(hc:c<256):Calls prog 184 #[.int .u8 (c:Int)] w fun e w'=>e=.returned (.bool (decide (28≤c)))∧w=w':=by
 obtain⟨r,hr⟩:∃r,r=decide (28≤c):=⟨_,rfl⟩;have d1:decide (28≤c)=r:=hr.symm;have d2:decide ((28:Int)≤(c:Int))=r:=by rw[hr];exact decide_eq_decide.2 (by omega)
 rw[←hr];clear hr;go_enter func184,ntmps184
 go_wp2;go_ret;exact⟨rfl,rfl⟩
theorem PD:∀args w,(callFunc 184 args).run prog w=.ok (.enter 184 args) w:=enters_of func184 (by kernel_rfl) rfl
theorem Nw(A:Option Addr)(c:Nat)(l:List Nat)(w:World)(hl:l.length≤1000000)(hlt:∀x∈l,x<256)(hr:Reads w A (u8s l)) :
  Calls prog 212 #[.slice A l.length c,.func (.func 184) #[] #[]] w fun e w'=>(∃r:Int,e=.returned (.int .i64 r)∧decide (0≤r)=decide (¬∀x∈l,x<28))∧w=w':=by
 have Hl:=hid (fun a (h:a<256)=>Nv a w h);have ec:=PD;have Hr:=hid hr;have Hlt:=hid hlt;obtain⟨n,hn⟩:∃n,n=l.length:=⟨_,rfl⟩;have Hn:=hid hn;rw[←hn]at hl ⊢;clear hr hlt hn;go_enter func212,ntmps212
 go_wp2;go_loopw [5,8] (fun _ i wr=>wr=w∧∃k:Nat,i=.int .i64 (k:Int)∧k≤n∧Hid (∀x∈l.take k,x<28)) (fun _ i _=>n-(intOf i).toNat)
 case atStart=>exact⟨rfl,0,rfl,Nat.zero_le _,hid (by simp)⟩
 case round=>
  obtain⟨rfl,k,rfl,hk,hall⟩:=hrel;by_cases hkl:k<n
  ·have hkl':k<l.length:=by rw[←Hn.out];exact hkl
   obtain⟨g,off,rfl,hc⟩:=fT Hr.out (by intro e;rw[e]at hkl';simp at hkl');have c1:=hc k hkl';have hx:=Hlt.out l[k] (List.getElem_mem hkl');have Hin:=hid (List.getElem_mem hkl');have Htk:Hid (l.take (k+1)=l.take k++[l[k]]):=hid (by rw[List.take_add_one,List.getElem?_eq_getElem hkl'];rfl);clear hc;generalize l[k]=x at *;have bB:=hid (Hl.out x hx);by_cases h28:28≤x
   ·rw[decide_eq_true h28]at bB;have dQ:Hid (decide (0≤(k:Int))=decide (¬∀y∈l,y<28)):=hid (by
     rw[decide_eq_true (by omega:(0:Int)≤(k:Int)),decide_eq_true];exact fun h=>by have:=h x Hin.out;omega)
    clear hall Hl h28 Htk Hr;go_wp2_with fail
    refine bB.out.mono ?_;rintro e w' ⟨rfl,rfl⟩;go_wp2;go_ret;exact⟨⟨_,rfl,dQ.out⟩,rfl⟩
   ·rw[decide_eq_false h28]at bB;have agC:Hid (∀y∈l.take (k+1),y<28):=hid (fun y hy=>by
     rw[Htk.out]at hy;rcases List.mem_append.1 hy with hy | hy
     ·exact hall.out y hy
     ·rw[List.mem_singleton.1 hy];omega)
    clear hall Hl h28 Htk Hr;go_wp2_with fail
    refine bB.out.mono ?_;rintro e w' ⟨rfl,rfl⟩;go_wp2;go_roundw
    case rel=>exact⟨trivial,k+1,by go_num,by omega,agC⟩
    case measure=>simp[intOf];omega
  ·have hkn:k=n:=by omega
   have dQ:Hid (decide (0≤(-1:Int))=decide (¬∀y∈l,y<28)):=hid (by
    have h:=hall.out;rw[hkn,Hn.out,List.take_length]at h;rw[decide_eq_false (by omega),decide_eq_false (fun hh=>hh h)])
   have dk:decide ((k:Int)<(n:Int))=false:=decide_eq_false (by omega);clear hall Hl hkn;go_wp2;go_ret;exact⟨⟨_,rfl,dQ.out⟩,rfl⟩
theorem BG(A:Option Addr)(c:Nat)(l:List Nat)(w:World)(hl:l.length≤1000000)(hlt:∀x∈l,x<256)(hr:Reads w A (u8s l)) :
  Calls prog 183 #[.slice A l.length c,.func (.func 184) #[] #[]] w fun e w'=>e=.returned (.bool (decide (¬∀x∈l,x<28)))∧w=w':=by
 have Hi:=hid (Nw A c l w hl hlt hr);clear hlt hr;generalize decide (¬∀x∈l,x<28)=r at *;go_enter func183,ntmps183
 go_wp2_with fail
 refine Hi.out.mono ?_;rintro e w' ⟨⟨z,rfl,hz⟩,rfl⟩;clear Hi;go_wp2;go_ret;exact⟨rfl,rfl⟩
theorem Mj(A:Option Addr)(c:Nat)(l:List Nat)(w:World)(hl:l.length≤1000000)(hlt:∀x∈l,x<256)(hr:Reads w A (u8s l)) :
  Calls prog 147 #[.slice A l.length c] w fun e w'=>e=.returned (.bool (decide (∀x∈l,x<28)))∧w=w':=by
 have hi:=BG A c l w hl hlt hr;have hd:decide (¬∀x∈l,x<28)=!decide (∀x∈l,x<28):=decide_not;rw[hd]at hi;have Hi:=hid hi;clear hlt hr hi hd;generalize decide (∀x∈l,x<28)=r at *;go_enter func147,ntmps147
 go_wp2_with fail
 refine Hi.out.mono ?_;rintro e w' ⟨rfl,rfl⟩;clear Hi;cases r <;>
 ·go_wp2;go_ret;exact⟨rfl,rfl⟩
theorem Eu(b pos:Nat)(bs:List Nat)(w:World)(hs:bs.length≤100000)(hbs:∀x∈bs,x<256)(hp:pos≤8*bs.length)(h:RS w b 0 bs pos) :
  Calls prog 151 #[.pointer (some ⟨b,0,none⟩)] w fun e w'=>e=.returned (.bool (decide (8*bs.length-pos<8∧aS bs/2^pos=0)))∧w.grownBy w' (some b):=by
 obtain⟨m,hm⟩:∃m,m=8*bs.length-pos:=⟨_,rfl⟩;have hle:Calls prog 188 #[.pointer (some ⟨b,0,none⟩)] w fun e w'=>e=.returned (.int .i64 (m:Int))∧∃k,w'=w.drewN k:=by rw[hm];exact uJ b 0 bs pos w (by omega) hp h
 have Hle:=hid hle;rw[←hm];by_cases h8:m<8
 ·have ht:=fun k=>(jN b 0 bs pos m (w.drewN k) (by omega) hbs (by omega) (by omega) (h.drewN k)).mono fun e w' (hh:_∧_∧_)=>(⟨hh.1,bF (bg (au w (some b)) k) hh.2.2⟩:_∧w.grownBy w' (some b))
  have hv:aS bs/2^pos%2^m=aS bs/2^pos:=by
   apply Nat.mod_eq_of_lt
   have h1:=jP bs hbs;rw[rO,show 8*bs.length=m+pos by omega,Nat.pow_add]at h1;exact(Nat.div_lt_iff_lt_mul (Nat.pow_pos (by omega))).2 h1
  rw[hv]at ht;have Ht:=hid ht;clear ht;generalize aS bs/2^pos=v at *;have d1:decide ((m:Int)<8)=true:=decide_eq_true (by omega);have d2:decide (m<8)=true:=decide_eq_true h8;obtain⟨r,hr⟩:∃r,r=decide (m<8∧v=0):=⟨_,rfl⟩;have d3:((v:Int) == 0)=r:=by
   rw[hr];by_cases hv0:v=0
   ·subst hv0;simp[h8]
   ·rw[decide_eq_false (fun hh=>hv0 hh.2),beq_eq_false_iff_ne];omega
  rw[←hr];clear hle hv h hbs hm hr h8;go_enter func151,ntmps151
  go_wp2_with fail
  refine Hle.out.mono ?_;rintro e w' ⟨rfl,k,rfl⟩;go_wp2_with fail
  refine(Ht.out k).mono ?_;rintro e w2 ⟨rfl,hg2⟩;have Hg2:=hid hg2;clear hg2 Ht Hle;go_wp2;go_ret;exact⟨rfl,Hg2.out⟩
 ·have ht:∀k,Calls prog 177 #[.pointer (some ⟨b,0,none⟩),.int .i64 (m:Int)] (w.drewN k) fun e w'=>(∃(v:Nat) (z:Bool),e=.returned (.tuple #[.int .u32 (v:Int),.bool z]))∧w.grownBy w' (some b):=fun k=>by
   by_cases h32:m≤32
   ·exact(jN b 0 bs pos m (w.drewN k) (by omega) hbs h32 (by omega) (h.drewN k)).mono fun e w' ⟨he,_,hg⟩=>⟨⟨_,_,he⟩,bF (bg (au w (some b)) k) hg⟩
   ·exact(Kj ⟨b,0,none⟩ (m:Int) (w.drewN k) (Or.inr (by omega))).mono fun e w' ⟨he,hw⟩=>⟨⟨0,false,he⟩,hw▸bg (au w (some b)) k⟩
  have Ht:=hid ht;have d1:decide ((m:Int)<8)=false:=decide_eq_false (by omega);have d2:decide (m<8)=false:=decide_eq_false h8;have d3:decide (m<8∧aS bs/2^pos=0)=false:=decide_eq_false (fun hh=>h8 hh.1);rw[d3];clear hle ht h hbs hm h8 d3;go_enter func151,ntmps151
  go_wp2_with fail
  refine Hle.out.mono ?_;rintro e w' ⟨rfl,k,rfl⟩;go_wp2_with fail
  refine(Ht.out k).mono ?_;rintro e w2 ⟨⟨v,z,rfl⟩,hg2⟩;have Hg2:=hid hg2;clear hg2 Ht Hle;go_wp2;go_ret;exact⟨rfl,Hg2.out⟩
def Zm:Value→Nat
 | .slice _ n _=>n
 | _=>0
theorem Qj{w w':World}{base b:Nat}{e:TypeId}{v:Value}{n:Nat}{xs:List Value}(h:w.ownsRow base e 1 v n xs)(hg:w.grownBy w' (some b))(hb:b<base):w'.ownsRow base e 1 v n xs:=
 h.kept hg (by
  cases hv:v.ownBlock with
  | none=>exact .inl rfl
  | some x=>exact .inr (fun e=>by injection e with e;have:=(h.lt x hv).1;omega))
theorem Ja{w:World}{base:Nat}{e:TypeId}{v:Value}{n:Nat}{xs:List Value}(h:w.ownsRow base e 1 v n xs):Zm v=n:=by
 rcases h.2 with⟨rfl,h0⟩ | ⟨g,cap,cur,rfl,_⟩
 ·exact h0.symm
 ·rfl
def aaq(n0:Nat)(w':World)(e:Ending):Option (List Nat×Nat×Nat)→Prop
 | none=>∃A c,e=.returned (.tuple #[.slice A 0 c,.int .i64 0,.bool false])
 | some t=>∃A c,e=.returned (.tuple #[.slice A t.1.length c,.int .i64 (t.2.1:Int),.bool true])∧Reads w' A (aM t.1)∧∀a,A=some a→n0≤a.block
def ahk(n0:Nat)(w':World)(e:Ending)(b off:Nat)(bs:List Nat):Option (List Nat×Nat)→Prop
 | none=>e=.returned (.tuple #[.slice none 0 0,.bool false])
 | some t=>∃A c,e=.returned (.tuple #[.slice A t.1.length c,.bool true])∧(Reads w' A (aM t.1)∧∀a,A=some a→n0≤a.block)∧RS w' b off bs (8*bs.length-t.2)
namespace Bm
theorem Na(f N len:Nat):takeN f 0 N len=some ([],len):=by cases f<;>simp[takeN]
theorem TJ(f R N len:Nat)(h0:0<R)(h:len<wid R):takeN f R N len=none:=by
 cases f with
 | zero=>rw[takeN,if_neg (by omega)]
 | succ f=>rw[takeN,if_neg (by omega),if_pos h]
theorem GU(f R N len:Nat)(h0:0<R)(h:R<N%2^wid R):takeN f R N len=none:=by
 cases f with
 | zero=>rw[takeN,if_neg (by omega)]
 | succ f=>rw[takeN,if_neg (by omega)];split<;>rfl
theorem MZ(f R V p L:Nat)(h0:0<R)(hp:p+wid R≤L)(h:V/2^p%2^wid R≤R) :
  takeN (f+1) R (V/2^p) (L-p)=(takeN f (R-V/2^p%2^wid R) (V/2^(p+wid R)) (L-(p+wid R))).map fun t=>(V/2^p%2^wid R :: t.1,t.2):=by
 rw[takeN,if_neg (by omega),if_neg (by omega),if_neg (by omega),Nat.div_div_eq_div_mul,←Nat.pow_add,Nat.sub_sub]
end Bm
theorem Lj(w:World)(b off pos rest:Nat)(bs:List Nat)(hs:bs.length≤100000)(hbs:∀x∈bs,x<256)(hp:pos≤8*bs.length)(hrest:rest≤512)(hrs:RS w b off bs pos) :
  Calls prog 232 #[.pointer (some ⟨b,off,none⟩),.int .i64 (rest:Int)] w fun e w'=>ahk w.heap.size w' e b off bs (Bm.takeN 256 rest (aS bs/2^pos) (8*bs.length-pos))∧w.grownBy w' (some b):=by
 obtain⟨i0,hi,hz0,hz1,hz2⟩:=info_parts gI;obtain⟨r,hr⟩:∃r,r=Bm.takeN 256 rest (aS bs/2^pos) (8*bs.length-pos):=⟨_,rfl⟩;rw[←hr];have Hr:=hid hr;have Hrs:=hid hrs;have hbl:b<w.heap.size:=hrs.2.2.2;have ahf:Hid (∀(x:Nat) (W:World),x<4294967296→Calls prog 196 #[.int .i64 (x:Int)] W fun e w'=>e=.returned (.int .i64 (Bm.wid x:Int))∧W=w'):=hid CY;have adS:Hid (∀W p m,p≤8*bs.length→m≤32→8*bs.length-p<m→RS W b off bs p→Calls prog 177 #[.pointer (some ⟨b,off,none⟩),.int .i64 (m:Int)] W fun e w'=>e=.returned (.tuple #[.int .u32 0,.bool false])∧∃k,w'=W.drewN k):=hid (fun W p m h1 h2 h3 h4=>qC b off bs p m W (by omega) h1 h2 h3 h4);have uV:Hid (∀W p m,m≤32→p+m≤8*bs.length→RS W b off bs p→Calls prog 177 #[.pointer (some ⟨b,off,none⟩),.int .i64 (m:Int)] W fun e w'=>e=.returned (.tuple #[.int .u32 ((aS bs/2^p%2^m:Nat):Int),.bool true])∧RS w' b off bs (p+m)∧W.grownBy w' (some b)):=hid (fun W p m h1 h2 h3=>jN b off bs p m W (by omega) hbs h1 h2 h3);clear hr hrs hbs;generalize aS bs=V at *;generalize hL:8*bs.length=L at *;have HL:=hid hL;clear hL;go_enter func232,ntmps232
 go_wp2;go_loopw [1,6] (fun q u wr=>∃(R p:Nat) (acc:List Nat),q=.int .i64 (R:Int)∧R≤512∧p≤L∧acc.length≤256∧w.heap.size≤wr.heap.size∧Hid (wr.ownsRow w.heap.size 3 1 u acc.length (aM acc))∧Hid (RS wr b off bs p)∧Hid (w.grownBy wr (some b)) ∧
  Hid (r=(Bm.takeN (256-acc.length) R (V/2^p) (L-p)).map fun t=>(acc++t.1,t.2))) (fun _ u _=>256-Zm u)
 case atStart=>
  refine⟨rest,pos,[],rfl,hrest,hp,by simp,Nat.le_refl _,hid (World.ownsRow_nil w _ _ _),Hrs,hid (au _ _),hid ?_⟩;rw[Hr.out];cases Bm.takeN 256 rest (V/2^pos) (L-pos)<;>simp_all
 case round=>
  obtain⟨R,p,acc,rfl,hR,hpL,hacc,hsz,hown,hrs,hg,hres⟩:=hrel;clear Hr Hrs;obtain⟨A1,c1,rfl,hrd,hA1⟩:=dM hown.out;have Hrd:=hid hrd;have HA1:=hid (fun a e=>(hA1 a e).1);clear hA1;have hlen:=Ja hown.out;have Hlen:=hid hlen;clear hrd hlen;by_cases hR0:R=0
  ·subst hR0;have Hx:=hid hres.out;rw[Na]at Hx;clear hres hown;go_wp2;go_ret2;rw[Hx.out];refine⟨⟨A1,c1,?_,?_,?_⟩,hg.out⟩
   ·simp
   ·exact⟨by simpa using Hrd.out,HA1.out⟩
   ·rw[HL.out,show L-(L-p)=p by omega];exact hrs.out
  ·have akr:=eB R 10 (by omega);have Hw:=hid (ahf.out R wr (by omega));have d0:decide ((0:Int)<(R:Int))=true:=decide_eq_true (by omega);by_cases BM:L-p<Bm.wid R
   ·have Hx:Hid (r=none):=hid (by rw[hres.out,TJ _ _ _ _ (by omega) BM];rfl);have Hf:=hid (adS.out wr p (Bm.wid R) hpL (by omega) BM hrs.out);clear hres hown BM hrs;generalize Bm.wid R=wd at *;go_wp2_with fail
    refine Hw.out.mono ?_;rintro e w' ⟨rfl,rfl⟩;go_wp2_with fail
    refine Hf.out.mono ?_;rintro e w' ⟨rfl,q,rfl⟩;go_wp2;go_ret2;rw[Hx.out];exact⟨rfl,bg hg.out q⟩
   ·have Ht:=hid (uV.out wr p (Bm.wid R) (by omega) (by omega) hrs.out);have hv:=Nat.mod_lt (V/2^p) (Nat.two_pow_pos (Bm.wid R));have amn:2^Bm.wid R≤2^10:=Nat.pow_le_pow_right (by omega) akr;have als:(2:Nat)^10=1024:=by decide
    by_cases aeM:R<V/2^p%2^Bm.wid R
    ·have Hx:Hid (r=none):=hid (by rw[hres.out,GU _ _ _ _ (by omega) aeM];rfl);clear hres hown;generalize V/2^p%2^Bm.wid R=x at *;generalize Bm.wid R=wd at *;generalize 2^wd=P at *;have hci:IntKind.i64.wrap (x:Int)=(x:Int):=IntWalk.i64_in _ (by omega);have d1:decide ((R:Int)<(x:Int))=true:=decide_eq_true (by omega);go_wp2_with fail
     refine Hw.out.mono ?_;rintro e w' ⟨rfl,rfl⟩;go_wp2_with fail
     refine Ht.out.mono ?_;rintro e w3 ⟨rfl,NG,hg3⟩;have Hg3:=hid (bF hg.out hg3);clear NG hg3;go_wp2;go_ret2;rw[Hx.out];exact⟨rfl,Hg3.out⟩
    ·by_cases hfull:acc.length=256
     ·have Hx:Hid (r=none):=hid (by rw[hres.out,hfull,Bm.takeN,if_neg hR0];rfl);clear hres hown;generalize V/2^p%2^Bm.wid R=x at *;generalize Bm.wid R=wd at *;generalize 2^wd=P at *;have hci:IntKind.i64.wrap (x:Int)=(x:Int):=IntWalk.i64_in _ (by omega);have d1:decide ((R:Int)<(x:Int))=false:=decide_eq_false (by omega);rw[hfull]at *;go_wp2_with fail
      refine Hw.out.mono ?_;rintro e w' ⟨rfl,rfl⟩;go_wp2_with fail
      refine Ht.out.mono ?_;rintro e w3 ⟨rfl,NG,hg3⟩;have Hg3:=hid (bF hg.out hg3);clear NG hg3;go_wp2;go_ret2;rw[Hx.out];exact⟨rfl,Hg3.out⟩
     ·have dQ:=hid hres.out;rw[show 256-acc.length=(256-(acc.length+1))+1 by omega,MZ _ _ _ _ _ (by omega) (by omega) (by omega)]at dQ;clear hres;generalize V/2^p%2^Bm.wid R=x at *;generalize Bm.wid R=wd at *;generalize 2^wd=P at *;generalize hn:acc.length=n at *;have Hn:=hid hn;clear hn;have hci:IntKind.i64.wrap (x:Int)=(x:Int):=IntWalk.i64_in _ (by omega);have d1:decide ((R:Int)<(x:Int))=false:=decide_eq_false (by omega);have d2:((n:Int) == 256)=false:=by rw[beq_eq_false_iff_ne];omega
      have hrx:((R-x:Nat):Int)=(R:Int)-(x:Int):=by omega
      have hwq:wrap64 ((R:Int)-(x:Int))=(R:Int)-(x:Int):=jk _ (by omega) (by omega);go_wp2_with fail
      refine Hw.out.mono ?_;rintro e w' ⟨rfl,rfl⟩;go_wp2_with fail
      refine Ht.out.mono ?_;rintro e w3 ⟨rfl,NG,hg3⟩;have Hg3:=hid (bF hg.out hg3);have aag:=hid NG;have kK:=hid (Qj hown.out hg3 hbl);have hs3:=hg3.size;clear NG hg3 hrs hg hown Ht;go_wp2_with (at_builtin;refine wpList_append_own _ rfl _ _ 112 rfl w.heap.size 3 i0 (.int .i64 0) 1 8 underlying112 hi hz0 hz1 hz2 rfl (by decide) _ _ _ rfl (kK.out.alloc _) ⟨w3.heap.size,0,none⟩ 1 1 [.int .i64 (x:Int)] rfl rfl ?d1 ?d2 ?d3 ?d4 ?d5 ?_)
      case d1=>
       intro j u hj;match j,hj with
       | 0,hj=>simp at hj;subst hj;simp[Addr.add]
      case d2=>intro u hu;simp at hu;subst hu;rfl
      case d3=>unfold maxLen;omega
      case d4=>omega
      case d5=>simp;omega
      intro u' w7 bN gH _;have hga:w3.grownBy (w3.alloc (.cells #[.int .i64 (x:Int)] 3)) (some b):=aD (au _ _) _;have hnb:(Value.slice A1 n c1).ownBlock≠some b:=fun e=>by have:=(kK.out.lt b e).1;omega
      have agU:=hid (RS.keep (RS.keep aag.out (aD (au w3 none) (.cells #[.int .i64 (x:Int)] 3)) (by simp)) gH hnb);have Hg7:Hid (w.grownBy w7 (some b)):=hid (by
       have h1:=bF Hg3.out hga;refine⟨gH.os.trans h1.os,gH.tape.trans h1.tape,gH.output.trans h1.output,Nat.le_trans h1.size gH.size,fun i hi2 hne=>?_⟩;rw[←h1.block i hi2 hne];exact gH.block i (Nat.lt_of_lt_of_le hi2 h1.size) (fun e=>by have:=(kK.out.lt i e.symm).1;omega))
      have e:aM acc++[Value.int .i64 (x:Int)]=aM (acc++[x]):=by simp[aM]
      rw[e]at bN;have hl7:=Ja bN;have hs7:w.heap.size≤w7.heap.size:=Hg7.out.size;have nQ:=hid bN;have Hln:Hid ((acc++[x]).length=n+1):=hid (by rw[List.length_append,Hn.out];rfl);clear bN gH e hga hnb kK Hg3 aag;go_wp2;go_roundw
      case rel=>
       refine⟨R-x,p+wd,acc++[x],by rw[hrx],by omega,by omega,by rw[Hln.out];omega,hs7,by rw[Hln.out];exact nQ,agU,Hg7,hid ?_⟩;rw[dQ.out,Hln.out];cases Bm.takeN (256-(n+1)) (R-x) (V/2^(p+wd)) (L-(p+wd))with
       | none=>rfl
       | some t=>simp
      case measure=>rw[hl7];show 256-(n+1)<256-n;omega
theorem Lm(w:World)(b off pos:Nat)(bs:List Nat)(hs:bs.length≤100000)(hbs:∀x∈bs,x<256)(hp:pos≤8*bs.length)(hrs:RS w b off bs pos) :
  Calls prog 223 #[.pointer (some ⟨b,off,none⟩)] w fun e w'=>aaq w.heap.size w' e (Bm.takeA (aS bs/2^pos) (8*bs.length-pos))∧w.grownBy w' (some b) ∧
   ∀t,Bm.takeA (aS bs/2^pos) (8*bs.length-pos)=some t→RS w' b off bs (8*bs.length-t.2.2):=by
 unfold Bm.takeA;by_cases BM:8*bs.length-pos<3
 ·rw[if_pos BM];have Hf:=hid (qC b off bs pos 3 w (by omega) hp (by omega) BM hrs);clear hrs hbs;go_enter func223,ntmps223
  go_wp2_with fail
  refine Hf.out.mono ?_;rintro e w' ⟨rfl,q,rfl⟩;go_wp2;go_ret3
  exact⟨⟨_,_,rfl⟩,bg (au _ _) q,fun t h=>by cases h⟩
 ·rw[if_neg BM];have ht:=jN b off bs pos 3 w (by omega) hbs (by omega) (by omega) hrs;have hm:=Nat.mod_lt (aS bs/2^pos) (Nat.two_pow_pos 3);have h8:(2:Nat)^3=8:=by decide
  by_cases h4:4<aS bs/2^pos%2^3
  ·rw[if_pos h4];have Ht:=hid ht;clear ht hrs hbs;generalize aS bs/2^pos%2^3=x at *;have hci:IntKind.i64.wrap (x:Int)=(x:Int):=IntWalk.i64_in _ (by omega);have hw5:wrap64 (5+(x:Int))=5+(x:Int):=jk _ (by omega) (by omega);have d1:decide ((9:Int)<5+(x:Int))=true:=decide_eq_true (by omega);go_enter func223,ntmps223
   go_wp2_with fail
   refine Ht.out.mono ?_;rintro e w' ⟨rfl,_,hg⟩;have Hg:=hid hg;clear hg;go_wp2;go_ret3
   exact⟨⟨_,_,rfl⟩,Hg.out,fun t h=>by cases h⟩
  ·rw[if_neg h4];have hP:=Dc (5+aS bs/2^pos%2^3) (by omega) (by omega);have UH:=hid (fun W (h:RS W b off bs (pos+3))=>Lj W b off (pos+3) (2^(5+aS bs/2^pos%2^3)) bs hs hbs (by omega) hP.2 h);rw[Nat.pow_add (m:=pos) (n:=3),←Nat.div_div_eq_div_mul,←Nat.sub_sub]at UH;have Ht:=hid ht;clear ht hrs hbs;generalize hr:Bm.takeN 256 (2^(5+aS bs/2^pos%2^3)) (aS bs/2^pos/2^3) (8*bs.length-pos-3)=r at *;clear hr;generalize aS bs/2^pos%2^3=x at *;have hci:IntKind.i64.wrap (x:Int)=(x:Int):=IntWalk.i64_in _ (by omega);have hw5:wrap64 (5+(x:Int))=5+(x:Int):=jk _ (by omega) (by omega);have d1:decide ((9:Int)<5+(x:Int))=false:=decide_eq_false (by omega);have d2:decide (5+(x:Int)<0)=false:=decide_eq_false (by omega);have htn:(5+(x:Int)).toNat=5+x:=by omega
   have hpd:(2:Int)^(5+x)=((2^(5+x):Nat):Int):=by simp
   have H5x:Hid (5+(x:Int)=((5+x:Nat):Int)):=hid (by omega);obtain⟨S,hS⟩:∃S,S=2^(5+x):=⟨_,rfl⟩;rw[←hS]at hP hpd UH;have hw64:wrap64 (S:Int)=(S:Int):=jk _ (by omega) (by omega);clear hS;go_enter func223,ntmps223
   go_wp2_with fail
   refine Ht.out.mono ?_;rintro e w1 ⟨rfl,ajV,hg1⟩;have Hn1:=hid (UH.out w1 ajV);have Hg1:=hid hg1;have Hs1:=hid hg1.size;clear ajV hg1 UH Ht;cases r with
   | none=>
    go_wp2_with fail
    refine Hn1.out.mono ?_;rintro e w2 ⟨rfl,hg2⟩;have Hg2:=hid (bF Hg1.out hg2);clear hg2;go_wp2;go_ret3
    exact⟨⟨_,_,rfl⟩,Hg2.out,fun t h=>by cases h⟩
   | some t=>
    go_wp2_with fail
    refine Hn1.out.mono ?_;rintro e w2 ⟨⟨A,c,rfl,hrd,ND⟩,hg2⟩;have Hg2:=hid (bF Hg1.out hg2);have Hrd:=hid hrd;have YW:=hid ND;clear hg2 hrd ND;go_wp2;go_ret3
    refine⟨⟨A,c,?_,Hrd.out.1,fun a e=>Nat.le_trans Hs1.out (Hrd.out.2 a e)⟩,Hg2.out,fun t h=>?_⟩
    ·rw[H5x.out];rfl
    ·injection h with h
     subst h;exact YW.out
end Go.Proofs.YtgiicohbigiapaaGreat
