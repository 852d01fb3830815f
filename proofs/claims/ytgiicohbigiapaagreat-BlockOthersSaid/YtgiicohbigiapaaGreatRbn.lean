/- Contracts, and what they rest on. Conditions: the theorems' premises. -/
import Derived.Test.YtgiicohbigiapaaGreatRbd
import Derived.Test.YtgiicohbigiapaaGreatRbm
set_option maxHeartbeats 4000000
set_option maxRecDepth 100000
open Go.Lib(hid)
open Go.Proofs.Tryz Go.Proofs.YtgiicohbigiapaaGreat.Bm
namespace Go.Proofs.YtgiicohbigiapaaGreat
open Go.RowKit
def agj(w':World)(b:Nat)(bs:List Nat)(e:Ending):Option (List Bm.Stp×Nat)→Prop
 | none=>∃A c,e=.returned (.tuple #[.slice A 0 c,.bool false])
 | some t=>(∃A c,e=.returned (.tuple #[.slice A t.1.length c,.bool true])∧BL w' A t.1)∧CR w' b (some (bs.drop t.2))
theorem rU{w w':World}{A:Option Addr}{l:List Nat}{b:Nat}{t:TypeId}{cs:List Value}(h:Row w b t cs)(hn:∀(m:Nat) (z:Int),cs[m]?≠some (.int .u8 z))(hr:Reads w A (u8s l))(hg:w.grownBy w' (some b)):Reads w' A (u8s l):=fun hne=>by
 obtain⟨g,off,rfl,hc⟩:=hr hne;refine⟨g,off,rfl,fun j hj=>?_⟩;have h1:=hc j hj;rw[aO]at hj;rw[bD l j hj]at h1 ⊢;refine hg.cell h1 (fun e=>?_);injection e with e
 dsimp only at e;subst e;exact hn _ _ ((Row.cell h (off+j)).symm.trans h1)
theorem wQ(st:Left)(m:Nat)(z:Int):(kC st)[m]?≠some (.int .u8 z):=by
 intro hx;rcases st with _ | bs
 all_goals
  match m,hx with
  | 0,hx=>simp[kC]at hx
  | 1,hx=>simp[kC]at hx
  | m+2,hx=>simp[kC]at hx
def XV(n:Nat)(Ss:List (Option Addr×Nat×List Nat))(m:Nat):List Value:=(Ss.map fun s=>Value.slice s.1 n s.2.1)++List.replicate m (.slice none 0 0)
theorem Ea(n m:Nat)(Ss:List (Option Addr×Nat×List Nat))(i:Nat)(z:Int):(XV n Ss m)[i]?≠some (.int .u8 z):=by
 intro h;have hm:=List.mem_of_getElem? h;unfold XV at hm;rcases List.mem_append.1 hm with hm | hm
 ·obtain⟨s,_,e⟩:=List.mem_map.1 hm;cases e
 ·rw[List.mem_replicate]at hm;cases hm.2
def UR(w:World)(n:Nat)(Ss:List (Option Addr×Nat×List Nat)):Prop:=∀s∈Ss,(s.2.2.length=n∧∀x∈s.2.2,x<28)∧Reads w s.1 (u8s s.2.2)
theorem UR.ahV{w w':World}{n:Nat}{Ss:List (Option Addr×Nat×List Nat)}{b:Nat}{t:TypeId}{cs:List Value}(hs:UR w n Ss)(h:Row w b t cs)(hn:∀(m:Nat) (z:Int),cs[m]?≠some (.int .u8 z))(hg:w.grownBy w' (some b)):UR w' n Ss:=
 fun s hm=>⟨(hs s hm).1,rU h hn (hs s hm).2 hg⟩
theorem UR.below{w w':World}{n:Nat}{Ss:List (Option Addr×Nat×List Nat)}(hs:UR w n Ss)(hb:Below w.heap.size w w'):UR w' n Ss:=
 fun s hm=>⟨(hs s hm).1,aC (hs s hm).2 hb⟩
theorem acp(b:Nat)(bs:List Nat)(most:Int)(w:World)
  (hint:Calls prog 40 #[.pointer (some ⟨b,0,none⟩),.int .i64 (min most 1000)] w fun e w'=>e=.returned (.int .i64 0)∧CR w' b none∧w.grownBy w' (some b)) :
  Calls prog 73 #[.pointer (some ⟨b,0,none⟩),.int .i64 most] w fun e w'=>agj w' b bs e none∧w.grownBy w' (some b):=by
 have H1:=hid hint;clear hint;go_enter func73,ntmps73
 go_wp2_with fail
 refine H1.out.mono ?_;rintro e w1 ⟨rfl,hc1,hg1⟩;have Hb:=hid (aK b none w1 hc1);have Hg1:=hid hg1;clear hc1 hg1 H1;go_wp2_with fail
 refine Hb.out.mono ?_;rintro e w3 ⟨rfl,rfl⟩;clear Hb;go_wp2;go_ret2;exact⟨⟨_,_,rfl⟩,Hg1.out⟩
theorem RY(b k:Nat)(bs:List Nat)(most:Int)(w:World)
  (hint:Calls prog 40 #[.pointer (some ⟨b,0,none⟩),.int .i64 (min most 1000)] w fun e w'=>e=.returned (.int .i64 0)∧CR w' b (some (bs.drop k))∧w.grownBy w' (some b)) :
  Calls prog 73 #[.pointer (some ⟨b,0,none⟩),.int .i64 most] w fun e w'=>agj w' b bs e (some ([],k))∧w.grownBy w' (some b):=by
 have H1:=hid hint;clear hint;go_enter func73,ntmps73
 go_wp2_with fail
 refine H1.out.mono ?_;rintro e w1 ⟨rfl,hc1,hg1⟩;have Hb:=hid (aK b _ w1 hc1);have Hg1:=hid hg1;have Hc1:=hid hc1;clear hc1 hg1 H1;go_wp2_with fail
 refine Hb.out.mono ?_;rintro e w3 ⟨rfl,rfl⟩;clear Hb;go_wp2;go_ret2;exact⟨⟨⟨_,_,rfl,fun h=>absurd h (by simp)⟩,Hc1.out⟩,Hg1.out⟩
theorem RX(b k n:Nat)(bs:List Nat)(most:Int)(w:World)(hn0:1≤n)(hn:n≤1000)(hl:bs.length≤100000000)(hlt:∀x∈bs,x<256)
  (hint:Calls prog 40 #[.pointer (some ⟨b,0,none⟩),.int .i64 (min most 1000)] w fun e w'=>e=.returned (.int .i64 (n:Int))∧CR w' b (some (bs.drop k))∧w.grownBy w' (some b)) :
  Calls prog 73 #[.pointer (some ⟨b,0,none⟩),.int .i64 most] w fun e w'=>agj w' b bs e (match gB 3 (bs.drop k) n with
   | none=>none
   | some p=>match qH ((bs.drop k).drop p.2)with
    | none=>none
    | some q=>(kF p.1 n q.1).map fun l=>(l,k+p.2+q.2))∧w.grownBy w' (some b):=by
 obtain⟨res,hres⟩:∃res,res=(match gB 3 (bs.drop k) n with
   | none=>none
   | some p=>match qH ((bs.drop k).drop p.2)with
    | none=>none
    | some q=>(kF p.1 n q.1).map fun l=>(l,k+p.2+q.2)):=⟨_,rfl⟩
 rw[←hres];obtain⟨S3,hS3⟩:∃S3,S3=gB 3 (bs.drop k) n:=⟨_,rfl⟩;rw[←hS3]at hres;have HS3:=hid hS3;have dQ:=hid hres;have H1:=hid hint;have Hun:=hid (fun m W (hc:CR W b (some (bs.drop m)))=>Ml b n (bs.drop m) W (by rw[List.length_drop];omega) (bZ hlt m) hn0 (by omega) hc);have Htx:=hid (fun m W (hc:CR W b (some (bs.drop m)))=>mO b (some (bs.drop m)) 4096 W (by omega) (by omega) ⟨bZ hlt m,by rw[List.length_drop];omega⟩ hc);have Hlt:=hid (fun m=>bZ hlt m);have dn:((n:Int) == 0)=false:=by rw[beq_eq_false_iff_ne];omega
 clear hint hres hlt hl hS3;go_enter func73,ntmps73
 go_wp2_with fail
 refine H1.out.mono ?_;rintro e w1 ⟨rfl,hc1,hg1⟩;have Hb:=hid (aK b _ w1 hc1);have Hg1:=hid hg1;have Hc1:=hid hc1;clear hc1 hg1 H1;go_wp2_with fail
 refine Hb.out.mono ?_;rintro e w3 ⟨rfl,rfl⟩;clear Hb;obtain⟨ba,hba⟩:∃ba,w1.heap.size=ba:=⟨_,rfl⟩;have hra:=Row.new w1 108 (XV n [] 3);have hbel:=(Below.refl w1.heap.size w1).alloc (Nat.le_refl _) (.cells #[.slice none 0 0,.slice none 0 0,.slice none 0 0] 108);have e3:w1.alloc (.cells (XV n [] 3).toArray 108)=w1.alloc (.cells #[.slice none 0 0,.slice none 0 0,.slice none 0 0] 108):=rfl;rw[e3,hba]at hra;have Hra:=hid hra;have Hba:=hid hba;have Hc2:=hid (Hc1.out.below hbel);have Hg2:=hid (aA Hg1.out (ak hbel _));have hbb:b<ba:=by rw[←hba];exact Hc1.out.lt
 have hws:w.heap.size≤ba:=by rw[←hba];exact Hg1.out.size
 clear hra hbel e3 hba Hc1 Hg1;go_wp2;rw[Hba.out];generalize w1.alloc (.cells #[.slice none 0 0,.slice none 0 0,.slice none 0 0] 108)=wA at *;clear Hba;go_loopw [8,9,10,20] (fun _ _ _ i wr=>∃(j at_:Nat) (Ss:List (Option Addr×Nat×List Nat)),i=.int .i64 (j:Int)∧j≤3∧Hid (Ss.length=j)∧Hid (Row wr ba 108 (XV n Ss (3-j)))∧Hid (UR wr n Ss)∧Hid (CR wr b (some (bs.drop (k+at_))))∧Hid (w.grownBy wr (some b)) ∧
  Hid (S3=(gB (3-j) (bs.drop (k+at_)) n).map fun q=>(Ss.map (fun s=>s.2.2)++q.1,at_+q.2))) (fun _ _ _ i _=>3-(intOf i).toNat)
 case atStart=>
  refine⟨0,0,[],rfl,by omega,hid rfl,Hra,hid (fun s hs=>by cases hs),Hc2,Hg2,hid ?_⟩;rw[Nat.add_zero,Nat.sub_zero,HS3.out];cases gB 3 (bs.drop k) n<;>simp
 case round=>
  obtain⟨j,at_,Ss,rfl,hj,hSl,hrow,hsl,hcr,hg,hstr⟩:=hrel;clear Hra Hc2 Hg2;by_cases hj3:j<3
  ·have dj:(j:Int)<3:=by omega
   have bB:=hid (Hun.out (k+at_) wr hcr.out);have pE:=hid hstr.out;obtain⟨d,hd⟩:∃d,3-j=d+1:=⟨3-j-1,by omega⟩;rw[hd,gB]at pE;have agO:=hid (fun l kk h=>acN (bs.drop (k+at_)) n (Hlt.out _) l kk h);have hrow':=hrow.out;rw[hd]at hrow';have fu:=hid hrow';have Hd:=hid (show 3-(j+1)=d by omega);have VU:=hcr;clear hstr hcr hrow hrow' hd;cases hs:Ed (bs.drop (k+at_)) n with
   | none=>
    rw[hs]at pE bB;dsimp only at pE;have gV:Hid (res=none):=hid (by rw[dQ.out,pE.out];rfl);clear pE Hun Htx Hlt dQ agO hs hsl fu Hd VU;go_wp2_with fail
    refine bB.out.mono ?_;rintro e w4 ⟨⟨A,c,rfl⟩,hg4⟩;have Hg4:=hid (aA hg.out hg4);clear hg4 bB hg;go_wp2;go_ret2;rw[gV.out];exact⟨⟨_,_,rfl⟩,Hg4.out⟩
   | some t=>
    obtain⟨l,kk⟩:=t;rw[hs]at pE bB;dsimp only at pE;have hm:=agO.out l kk hs;have Hm:=hid hm;rw[List.drop_drop]at pE;clear agO hs;go_wp2_with fail
    refine bB.out.mono ?_;rintro e w4 ⟨⟨⟨A,c,rfl,hrd⟩,hc4⟩,hg4⟩;dsimp only at hrd hc4 ⊢;rw[List.drop_drop]at hc4;have hrow4:=fu.out.keep (hg4.block ba fu.out.lt (by simp;omega));have ajZ:=hsl.out.ahV VU.out (wQ _) hg4;have hnA:Reads (w4.setCell ⟨ba,j,none⟩ (.slice A n c)) A (u8s l):=rU hrow4 (Ea n (d+1) Ss) hrd (dX w4 ⟨ba,j,none⟩ (.slice A n c));have akb:=ajZ.ahV hrow4 (Ea n (d+1) Ss) (dX w4 ⟨ba,j,none⟩ (.slice A n c));have hc5:CR (w4.setCell ⟨ba,j,none⟩ (.slice A n c)) b (some (bs.drop (k+at_+kk))):=hc4.keep (dX w4 ⟨ba,j,none⟩ (.slice A n c)) (by simp;omega);have abq:=hrow4.aW j (.slice A n c);have hset:(XV n Ss (d+1)).set j (.slice A n c)=XV n (Ss++[(A,c,l)]) d:=by
     unfold XV;rw[List.set_append_right _ _ (by rw[List.length_map,hSl.out];omega),List.length_map,hSl.out,Nat.sub_self,List.replicate_succ,List.set_cons_zero,List.map_append,List.append_assoc];rfl
    rw[hset]at abq;have f0:=hrow4.free j;have hsome:∃u,w4.cell? ⟨ba,j,none⟩=some u:=by
     rw[hrow4.cell];unfold XV;rw[List.getElem?_append_right (by rw[List.length_map,hSl.out];omega),List.length_map,hSl.out,Nat.sub_self];exact⟨_,rfl⟩
    obtain⟨u0,hu0⟩:=hsome;have hg5:w.grownBy (w4.setCell ⟨ba,j,none⟩ (.slice A n c)) (some b):=by
     have h1:=aA hg.out hg4;exact⟨h1.os,h1.tape,h1.output,by have:=h1.size;simpa [World.setCell]using this,fun i hi hne=>by
      rw[←h1.block i hi hne];exact Below.heap_setCell w4 ⟨ba,j,none⟩ _ i (by show i≠ba;omega)⟩
    have alb:Hid (UR (w4.setCell ⟨ba,j,none⟩ (.slice A n c)) n (Ss++[(A,c,l)])):=hid (fun s hs=>by
     rcases List.mem_append.1 hs with hs | hs
     ·exact akb s hs
     ·rw[List.mem_singleton.1 hs];exact⟨Hm.out,hnA⟩)
    have agS:=hid abq;have Hc5:=hid hc5;have Hg5:=hid hg5;have Hlen:Hid (l.length=n):=hid Hm.out.1;have hln:=Hlen.out;rw[hln];clear hrow4 ajZ hnA akb hc5 abq hset hg5 hm hrd hc4 hg4 hsl hg fu Hm bB hln VU;go_wp2;go_roundw
    case rel=>
     refine⟨j+1,at_+kk,Ss++[(A,c,l)],by go_num,by omega,hid (by rw[List.length_append,hSl.out];rfl),by rw[Hd.out];exact agS,alb,by rw[←Nat.add_assoc];exact Hc5,Hg5,hid ?_⟩;rw[pE.out,Hd.out,←Nat.add_assoc];cases gB d (bs.drop (k+at_+kk)) n<;>simp[Nat.add_assoc]
    case measure=>simp[intOf];omega
  ·have abe:j=3:=by omega
   subst abe;obtain⟨s0,s1,s2,hS3⟩:∃s0 s1 s2,Ss=[s0,s1,s2]:=by
    match Ss,hSl.out with
    | [x,y,z],_=>exact⟨x,y,z,rfl⟩
   subst hS3;have pE:=hid hstr.out;rw[Nat.sub_self,gB,Option.map_some,List.append_nil,Nat.add_zero]at pE;have hrow2:Row wr ba 108 [.slice s0.1 n s0.2.1,.slice s1.1 n s1.2.1,.slice s2.1 n s2.2.1]:=hrow.out;obtain⟨x0,x1,x2⟩:=fV hrow2;have bB:=hid (Htx.out (k+at_) wr hcr.out);have lU:=hid dQ.out;rw[pE.out]at lU;simp only[List.map_cons,List.map_nil]at lU;rw[List.drop_drop]at lU;have fu:=hid hrow2;have VU:=hcr;clear hstr hrow hrow2 dQ pE hSl Htx Hun hcr;cases htx:qH (bs.drop (k+at_))with
   | none=>
    have Hc2:=hid bB.out;rw[Bz _ htx]at Hc2;rw[htx]at lU;dsimp only at lU;clear htx bB Hlt hsl fu;go_wp2_with fail
    refine Hc2.out.mono ?_;rintro e w4 ⟨rfl,hc4,hg4⟩;have Hb:=hid (aK b none w4 hc4);have Hg4:=hid (aA hg.out hg4);clear hc4 hg4 hg Hc2;go_wp2_with fail
    refine Hb.out.mono ?_;rintro e w5 ⟨rfl,rfl⟩;clear Hb;go_wp2;go_ret2;rw[lU.out];exact⟨⟨_,_,rfl⟩,Hg4.out⟩
   | some q=>
    obtain⟨bd,m⟩:=q;obtain⟨e1,hl1⟩:=BA _ _ htx;have hm1:=Ia _ _ htx (Hlt.out _);have Hc2:=hid bB.out;rw[e1]at Hc2;rw[htx]at lU;dsimp only at lU Hc2 hl1 hm1;rw[List.drop_drop]at Hc2;have jH:=hid (fun W=>bU W bd hm1);have Hst:=hid (fun W A c (h:UR W n [s0,s1,s2]) hr=>Mk s0.1 s1.1 s2.1 A s0.2.1 s1.2.1 s2.2.1 c n s0.2.2 s1.2.2 s2.2.2 bd W hn (h s0 (by simp)).1 (h s1 (by simp)).1 (h s2 (by simp)).1 (h s0 (by simp)).2 (h s1 (by simp)).2 (h s2 (by simp)).2 hl1 hm1 hr);obtain⟨rr,hrr⟩:∃rr,rr=kF [s0.2.2,s1.2.2,s2.2.2] n bd:=⟨_,rfl⟩;rw[←hrr]at Hst lU;clear htx e1 bB Hlt hrr hm1;generalize ahI:strOf bd=sb at *;clear ahI;go_wp2_with fail
    refine Hc2.out.mono ?_;rintro e w4 ⟨rfl,hc4,hg4⟩;have Hb:=hid (aK b _ w4 hc4);have Hg4:=hid (aA hg.out hg4);have aiO:=hid (hsl.out.ahV VU.out (wQ _) hg4);have hrow4:=fu.out.keep (hg4.block ba fu.out.lt (by simp;omega));obtain⟨y0,y1,y2⟩:=fV hrow4;have Hc4:=hid hc4;clear hc4 hg4 hg Hc2 hsl VU fu hrow4 x0 x1 x2;go_wp2_with fail
    refine Hb.out.mono ?_;rintro e w5 ⟨rfl,rfl⟩;obtain⟨w6,cap,bO,hcell,hb6⟩:=jH.out w4;have hrs:Reads w6 (some ⟨w4.heap.size,0,none⟩) (u8s bd):=fun _=>⟨_,_,rfl,fun j hj=>by
     rw[aO]at hj;rw[Nat.zero_add,hcell j hj,bD bd j hj]⟩
    have aaj:=hid (Hst.out w6 _ cap (aiO.out.below hb6) hrs);have Hg6:=hid (aA Hg4.out (ak hb6 _));have Hc6:=hid (Hc4.out.below hb6);clear Hb hcell hb6 hrs Hst aiO Hg4 Hc4 jH;go_wp2_with fail
    refine aaj.out.mono ?_;rintro e w7 ⟨hsp,hb7⟩;have Hg7:=hid (aA Hg6.out (ak hb7 _));have Hc7:=hid (Hc6.out.below hb7);clear hb7 aaj Hg6 Hc6 bO y0 y1 y2;cases rr with
    | none=>
     obtain⟨A,c,rfl⟩:=hsp;go_wp2;go_ret2;rw[lU.out];exact⟨⟨_,_,rfl⟩,Hg7.out⟩
    | some l=>
     obtain⟨A,c,rfl,hrd⟩:=hsp;have Hrd:=hid hrd;clear hrd;go_wp2;go_ret2;rw[lU.out];exact⟨⟨⟨_,_,rfl,Hrd.out⟩,Hc7.out⟩,Hg7.out⟩
theorem Xk(b:Nat)(bs:List Nat)(most:Int)(w:World)(h0:-9223372036854775808≤most)(h1:most≤9223372036854775807)(hl:bs.length≤100000000)(hlt:∀x∈bs,x<256)(h:CR w b (some bs)) :
  Calls prog 73 #[.pointer (some ⟨b,0,none⟩),.int .i64 most] w fun e w'=>agj w' b bs e (qO bs most)∧w.grownBy w' (some b):=by
 have hint:=nH b (some bs) (min most 1000) w (by omega) (by omega) ⟨hlt,hl⟩ h;by_cases hc:0<(aj bs).2∧((aj bs).1:Int)≤min most 1000
 ·rw[mI _ bs hc.1 hc.2]at hint;dsimp only at hint;by_cases hz:(aj bs).1=0
  ·rw[XP bs most hc hz];rw[hz]at hint;exact RY b _ bs most w hint
  ·rw[XL bs most hc hz];exact RX b _ _ bs most w (by omega) (by omega) hl hlt hint
 ·rw[yY _ bs hc]at hint;rw[afH bs most hc];exact acp b bs most w hint
end Go.Proofs.YtgiicohbigiapaaGreat
