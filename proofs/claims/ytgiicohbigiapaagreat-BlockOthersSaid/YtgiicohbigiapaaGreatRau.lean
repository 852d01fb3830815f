/- Contracts, and what they rest on. Conditions: the theorems' premises. -/
import Derived.Test.YtgiicohbigiapaaGreatRat
import Derived.Test.YtgiicohbigiapaaGreatRae
set_option maxHeartbeats 4000000
set_option maxRecDepth 100000
open Go.Lib(hid)
open Go.Proofs.Tryz Go.Proofs.YtgiicohbigiapaaGreat.Bm
namespace Go.Proofs.YtgiicohbigiapaaGreat
open Go.RowKit
theorem yU(A:Option Addr)(c:Nat)(l:List Int)(w:World)(hl:l.length≤1000000000)(hr:Reads w A (lQ l))(hW:jw l) :
  Calls prog 142 #[.slice A l.length c] w fun e w'=>∃g,e=.returned (.tuple #[.slice (some ⟨g,0,none⟩) l.length l.length,.bool true])∧Reads w' (some ⟨g,0,none⟩) (aM (iU (l.map Int.toNat)))∧w.heap.size≤g∧Below w.heap.size w w':=by
 have h:=sH A c l w (by omega) hr;rw[decide_eq_true hW]at h;obtain⟨e,h11,hln⟩:=Aw l hW.1;have hkr:krN (l.map Int.toNat)≤2048:=by have:=hW.2.2.2;omega
 have h1:=Ng A c (l.map Int.toNat) w (by have:=hW.1.1;omega) h11 hkr (by rw[←bJ,←e];exact hr) (by rw[hln];exact h);rw[hln]at h1;exact h1.mono fun e w' ⟨g,h1,h2,h3,h4⟩=>⟨g,h1,bR h2,h3,h4⟩
namespace Bm
theorem aaL(l cb:List Nat)(h:∀x∈cb,x<2):dR l+dR cb%2^cb.length*2^l.length=dR (l++cb):=by
 rw[mo,Nat.mod_eq_of_lt (uy cb h)]
theorem Py(l:List Nat):bytesOf (dR l) ((l.length+7)/8)=oN l:=rfl
end Bm
theorem Ww(A B:Option Addr)(c d:Nat)(ls bs:List Nat)(w:World)(hW:bC ls)(hbl:bs.length≤10000)(hlt:∀x∈bs,x<256)(hr:Reads w A (aM ls))(hs:Reads w B (u8s bs))
  (hcd:Calls prog 142 #[.slice A ls.length c] w fun e w'=>∃g,e=.returned (.tuple #[.slice (some ⟨g,0,none⟩) ls.length ls.length,.bool true])∧Reads w' (some ⟨g,0,none⟩) (aM (iU ls))∧w.heap.size≤g∧Below w.heap.size w w') :
  Calls prog 108 #[.slice A ls.length c,.slice B bs.length d] w fun e w'=>e=.returned (afN (NA ls bs))∧Below w.heap.size w w':=by
 obtain⟨res,hres⟩:∃r,r=NA ls bs:=⟨_,rfl⟩;rw[←hres];have dQ:=hid hres;have HW:=hid hW;have Da:=hW.1;have Hlt:=hid hlt;have Hr:=hid hr;have Hs:=hid hs;have Hcd:=hid hcd;have Hno:Hid (∀k,k<bs.length→ls[bs[k]?.getD 0]?.getD 0=0→res=none):=hid (fun k hk h0=>by
  rw[hres];unfold NA;rw[List.getElem?_eq_getElem hk,Option.getD_some]at h0;rw[Cz ls bs[k] h0 bs (List.getElem_mem hk)];rfl)
 have zU:Hid (∀(W:World) (b N n v m:Nat),n≤1000000000→v<4294967296→m≤32→WS W b 0 N n→Calls prog 99 #[.pointer (some ⟨b,0,none⟩),.int .u32 (v:Int),.int .i64 (m:Int)] W fun e w'=>e=.returned (.bool true)∧WS w' b 0 (N+v%2^m*2^n) (n+m)∧W.grownBy w' (some b)):=hid (fun W b N n v m h1 h2 h3 h4=>qm b 0 N n v m W h1 h2 h3 h4);have Hfl:=hid (fun n c W h1 h2=>QN n c W h1 h2);clear hres hW hlt hr hs hcd;go_enter func108,ntmps108
 go_wp2_with fail
 refine Hcd.out.mono ?_;rintro e w1 ⟨gc,rfl,hrc,hgc,hb1⟩;have Hrc:=hid hrc;have Hr1:=hid (aC Hr.out hb1);have Hs1:=hid (aC Hs.out hb1);have Hb1:=hid hb1;have xX:=hid (WS.new w1 153 (by decide));have Hal:=hid ((Below.refl w1.heap.size w1).alloc (Nat.le_refl _) (.cells #[.pointer none,.int .u64 0,.int .i64 0] 153));clear hrc hb1 Hr Hs Hcd;go_wp2;go_loopw [20] (fun iv wr=>∃(k:Nat) (acc:List Nat),k≤bs.length∧iv=.int .i64 (k:Int)∧acc.length≤11*k∧Hid (Bm.encS ls (bs.take k)=some acc)∧Hid (WS wr w1.heap.size 0 (Bm.dR acc) acc.length)∧Hid (Below w1.heap.size w1 wr)) (fun iv _=>bs.length-(intOf iv).toNat)
 case atStart=>exact⟨0,[],by omega,rfl,by simp,hid (by rw[List.take_zero];rfl),xX,Hal⟩
 case round=>
  obtain⟨k,acc,hk,rfl,hacc,henc,hws,hbel⟩:=hrel;clear xX Hal;by_cases hkl:k<bs.length
  ·obtain⟨gb,ob,rfl,hcb⟩:=fT (aC Hs1.out hbel.out) (by intro e;rw[e]at hkl;simp at hkl);have c0:=hcb k hkl;have hno:=Hno.out k hkl;rw[List.getElem?_eq_getElem hkl,Option.getD_some]at hno;have hbk:=Hlt.out bs[k] (List.getElem_mem hkl);have htk:bs.take (k+1)=bs.take k++[bs[k]]:=List.take_succ_eq_append_getElem hkl;have hen:=CB ls bs[k] (bs.take k);rw[←htk,henc.out,Option.map_some]at hen;have Hen:=hid hen;have aec:=hid hno;clear hcb hno htk hen henc Hno;generalize bs[k]=y at *;by_cases hy:y<ls.length
   ·obtain⟨gl,ol,rfl,hcl⟩:=fQ (aC Hr1.out hbel.out) (by omega);have c1:=hcl y hy;have hge:ls[y]?.getD 0=ls[y]:=by rw[List.getElem?_eq_getElem hy,Option.getD_some]
    have h11:=HW.out.2.1 ls[y] (List.getElem_mem hy);have Hcw:Hid (∀W,Below w1.heap.size w1 W→W.cell? ⟨gl,ol+y,none⟩=some (.int .i64 (ls[y]:Int))):=hid (fun W hb=>by
     obtain⟨g2,off2,e,hc2⟩:=fQ (aC Hr1.out hb) (by omega);injection e with e
     injection e with e1 e2
     subst e1 e2;exact hc2 y hy)
    have Hcc:Hid (∀W,Below w1.heap.size w1 W→W.cell? ⟨gc,y,none⟩=some (.int .i64 (eO ls y:Int))):=hid (fun W hb=>by
     obtain⟨g2,off2,e,hc2⟩:=fQ (aC Hrc.out hb) (by rw[jB];omega);injection e with e
     injection e with e1 e2
     subst e1 e2;have:=hc2 y (by rw[jB];exact hy);rw[Cu ls y hy,Nat.zero_add]at this;exact this)
    have agF:=hid (fun h=>uE ls y hy HW.out h);have adL:=hid (aQ ls y);have agE:=hid (OZ ls y);have agD:=hid (kL ls y);rw[hge]at aec Hen agF adL agE;clear hcl hge;generalize alD:aX ls y=cb at *;generalize eO ls y=cn at *;generalize ls[y]=x at *;clear alD;by_cases hx:x=0
    ·have hrn:res=none:=aec.out hx;subst hx;have Hrn:=hid hrn;have Hbb:=hid (Hb1.out.trans (hbel.out.mono Hb1.out.size));clear hrn;go_wp2;go_ret2;rw[Hrn.out];exact⟨rfl,Hbb.out⟩
    ·have hx0:0<x:=by omega
     have hen:=Hen.out;rw[if_pos hx0]at hen;have akI:=hid hen;have hcn:=agF.out hx0;have hfl:=Hfl.out x cn;have hpt:=zU.out wr.drew w1.heap.size (Bm.dR acc) acc.length (Bm.dR cb) x (by omega) (by have:=uy cb agD.out;rw[adL.out]at this;exact Nat.lt_trans (Nat.lt_of_lt_of_le this (Nat.pow_le_pow_right (n:=2) (j:=11) (by omega) h11)) (by decide)) (by omega) hws.out.drew;have hep:=aaL acc cb agD.out;rw[adL.out]at hep;rw[hep]at hpt;rw[←agE.out]at hfl;have Hpt:=hid hpt;have akJ:=hid (fun W=>hfl W h11 hcn);have hcl:=Hcw.out;have hcc:=Hcc.out;have Hlen:Hid ((acc++cb).length=acc.length+x):=hid (by rw[List.length_append,adL.out]);clear hen hpt hep hfl Hen aec agF Hfl zU hws Hcw Hcc adL agE agD;generalize Bm.dR cb=vb at *;have hd1:decide (ls.length≤y)=false:=decide_eq_false (by omega);have hd2:((x:Int) == 0)=false:=by rw[beq_eq_false_iff_ne];omega
     go_wp2_with fail
     refine wp_region_held_drew (S:=(fun W=>Below w1.heap.size w1 W)) (by kernel_rfl) (by exact hbel.out.drew) (fun hHeld=>?_);refine wpAnyH_take (i:=0) (oi:={dst:=some 36,op:=.move (.tmp 6),type:=112,pos:= "litcode.go:64",after:=#[],guard:=none}) (v:=?_) rfl (by kernel_rfl) (by kernel_rfl) (by kernel_rfl) (fun _ _ _ h=>h) (Or.inl ⟨by rfl,?_⟩) (by assumption) ?_;rotate_left
     ·(intro w hSw;(try dsimp only at hSw);go_simp;(try with_reducible rfl))
     try simp only[Act.put,List.setIfInBounds_toArray,List.set_cons_zero,List.set_cons_succ]
     refine wpAnyH_take (i:=1) (oi:={dst:=some 37,op:=.move (.tmp 10),type:=5,pos:= "litcode.go:64",after:=#[],guard:=none}) (v:=?_) rfl (by kernel_rfl) (by kernel_rfl) (by kernel_rfl) (fun _ _ _ h=>h) (Or.inl ⟨by rfl,?_⟩) (by assumption) ?_;rotate_left
     ·(intro w hSw;(try dsimp only at hSw);go_simp;(try with_reducible rfl))
     try simp only[Act.put,List.setIfInBounds_toArray,List.set_cons_zero,List.set_cons_succ]
     refine wpAnyH_take (i:=2) (oi:={dst:=some 38,op:=.indexAddr 112 (.tmp 36) (.tmp 37),type:=0,pos:= "litcode.go:64",after:=#[{on:=0,ground:=.data},{on:=1,ground:=.data}],guard:=none}) (v:=?_) rfl (by kernel_rfl) (by kernel_rfl) (by kernel_rfl) (fun _ _ _ h=>h) (Or.inl ⟨by rfl,?_⟩) (by assumption) ?_;rotate_left
     ·(intro w hSw;(try dsimp only at hSw);go_simp;(try with_reducible rfl))
     try simp only[Act.put,List.setIfInBounds_toArray,List.set_cons_zero,List.set_cons_succ]
     refine wpAnyH_take (i:=3) (oi:={dst:=some 39,op:=.load 3 (.tmp 38),type:=3,pos:= "litcode.go:64",after:=#[{on:=2,ground:=.data}],guard:=none}) (v:=?_) rfl (by kernel_rfl) (by kernel_rfl) (by kernel_rfl) (fun _ _ _ h=>h) (Or.inl ⟨by rfl,?_⟩) (by assumption) ?_;rotate_left
     ·(intro w hSw;(try dsimp only at hSw);go_simp;(try with_reducible rfl))
     try simp only[Act.put,List.setIfInBounds_toArray,List.set_cons_zero,List.set_cons_succ]
     refine wpAnyH_take (i:=4) (oi:={dst:=some 40,op:=.move (.tmp 0),type:=112,pos:= "litcode.go:64",after:=#[],guard:=none}) (v:=?_) rfl (by kernel_rfl) (by kernel_rfl) (by kernel_rfl) (fun _ _ _ h=>h) (Or.inl ⟨by rfl,?_⟩) (by assumption) ?_;rotate_left
     ·(intro w hSw;(try dsimp only at hSw);go_simp;(try with_reducible rfl))
     try simp only[Act.put,List.setIfInBounds_toArray,List.set_cons_zero,List.set_cons_succ]
     refine wpAnyH_take (i:=5) (oi:={dst:=some 41,op:=.move (.tmp 10),type:=5,pos:= "litcode.go:64",after:=#[],guard:=none}) (v:=?_) rfl (by kernel_rfl) (by kernel_rfl) (by kernel_rfl) (fun _ _ _ h=>h) (Or.inl ⟨by rfl,?_⟩) (by assumption) ?_;rotate_left
     ·(intro w hSw;(try dsimp only at hSw);go_simp;(try with_reducible rfl))
     try simp only[Act.put,List.setIfInBounds_toArray,List.set_cons_zero,List.set_cons_succ]
     refine wpAnyH_take (i:=6) (oi:={dst:=some 42,op:=.indexAddr 112 (.tmp 40) (.tmp 41),type:=0,pos:= "litcode.go:64",after:=#[{on:=4,ground:=.data},{on:=5,ground:=.data}],guard:=none}) (v:=?_) rfl (by kernel_rfl) (by kernel_rfl) (by kernel_rfl) (fun _ _ _ h=>h) (Or.inl ⟨by rfl,?_⟩) (by assumption) ?_;rotate_left
     ·(intro w hSw;(try dsimp only at hSw);go_simp;(try with_reducible rfl))
     try simp only[Act.put,List.setIfInBounds_toArray,List.set_cons_zero,List.set_cons_succ]
     refine wpAnyH_take (i:=7) (oi:={dst:=some 43,op:=.load 3 (.tmp 42),type:=3,pos:= "litcode.go:64",after:=#[{on:=6,ground:=.data}],guard:=none}) (v:=?_) rfl (by kernel_rfl) (by kernel_rfl) (by kernel_rfl) (fun _ _ _ h=>h) (Or.inl ⟨by rfl,?_⟩) (by assumption) ?_;rotate_left
     ·(intro w hSw;(try dsimp only at hSw);go_simp;(try with_reducible rfl))
     try simp only[Act.put,List.setIfInBounds_toArray,List.set_cons_zero,List.set_cons_succ]
     refine wpAnyH_take (i:=9) (oi:={dst:=some 45,op:=.move (.tmp 0),type:=112,pos:= "litcode.go:64",after:=#[],guard:=none}) (v:=?_) rfl (by kernel_rfl) (by kernel_rfl) (by kernel_rfl) (fun _ _ _ h=>h) (Or.inl ⟨by rfl,?_⟩) (by assumption) ?_;rotate_left
     ·(intro w hSw;(try dsimp only at hSw);go_simp;(try with_reducible rfl))
     try simp only[Act.put,List.setIfInBounds_toArray,List.set_cons_zero,List.set_cons_succ]
     refine wpAnyH_take (i:=10) (oi:={dst:=some 46,op:=.move (.tmp 10),type:=5,pos:= "litcode.go:64",after:=#[],guard:=none}) (v:=?_) rfl (by kernel_rfl) (by kernel_rfl) (by kernel_rfl) (fun _ _ _ h=>h) (Or.inl ⟨by rfl,?_⟩) (by assumption) ?_;rotate_left
     ·(intro w hSw;(try dsimp only at hSw);go_simp;(try with_reducible rfl))
     try simp only[Act.put,List.setIfInBounds_toArray,List.set_cons_zero,List.set_cons_succ]
     refine wpAnyH_take (i:=11) (oi:={dst:=some 47,op:=.indexAddr 112 (.tmp 45) (.tmp 46),type:=0,pos:= "litcode.go:64",after:=#[{on:=9,ground:=.data},{on:=10,ground:=.data}],guard:=none}) (v:=?_) rfl (by kernel_rfl) (by kernel_rfl) (by kernel_rfl) (fun _ _ _ h=>h) (Or.inl ⟨by rfl,?_⟩) (by assumption) ?_;rotate_left
     ·(intro w hSw;(try dsimp only at hSw);go_simp;(try with_reducible rfl))
     try simp only[Act.put,List.setIfInBounds_toArray,List.set_cons_zero,List.set_cons_succ]
     refine wpAnyH_take (i:=12) (oi:={dst:=some 48,op:=.load 3 (.tmp 47),type:=3,pos:= "litcode.go:64",after:=#[{on:=11,ground:=.data}],guard:=none}) (v:=?_) rfl (by kernel_rfl) (by kernel_rfl) (by kernel_rfl) (fun _ _ _ h=>h) (Or.inl ⟨by rfl,?_⟩) (by assumption) ?_;rotate_left
     ·(intro w hSw;(try dsimp only at hSw);go_simp;(try with_reducible rfl))
     try simp only[Act.put,List.setIfInBounds_toArray,List.set_cons_zero,List.set_cons_succ]
     refine wpAnyH_ready (rs:=[8]) (by kernel_rfl) (by simp) ?_;refine AllReadyH.cons (o:={dst:=some 44,op:=.call {callee:=.value (.func 143),args:=#[.tmp 39,.tmp 43],argTypes:=#[3,3]},type:=132,pos:= "litcode.go:64",after:=#[{on:=3,ground:=.data},{on:=7,ground:=.data}],guard:=none}) rfl (fun K hK=>?_) AllReadyH.nil;go_simp
     (go_at_call 143;refine(akJ.out _).mono ?_;rintro e w' ⟨rfl,rfl⟩)
     go_simp;refine hK.out _ _ (by with_reducible assumption) (fun hHeld=>?_);clear hK K
     try simp only[Act.put,List.setIfInBounds_toArray,List.set_cons_zero,List.set_cons_succ]
     refine wpAnyH_ready (rs:=[13]) (by kernel_rfl) (by simp) ?_;refine AllReadyH.cons (o:={dst:=some 49,op:=.call {callee:=.value (.func 99),args:=#[.tmp 8,.tmp 44,.tmp 48],argTypes:=#[153,132,3]},type:=4,pos:= "litcode.go:64",after:=#[{on:=8,ground:=.data},{on:=12,ground:=.data},{on:=8,ground:=.chain}],guard:=none}) rfl (fun K hK=>?_) AllReadyH.nil;go_simp
     (go_at_call 99;refine Hpt.out.mono ?_;rintro e w3 ⟨rfl,Zt,hg3⟩;have adl:=hid Zt;have Hb3:Hid (Below w1.heap.size w1 w3):=hid (hbel.out.drew.grown hg3 hbel.out.size (fun k e=>by injection e with e;omega));clear Zt hg3 Hpt)
     go_simp;refine hK.out _ _ (by exact Hb3.out) (fun hHeld=>?_);clear hK K
     try simp only[Act.put,List.setIfInBounds_toArray,List.set_cons_zero,List.set_cons_succ]
     refine wpAnyH_done (by kernel_rfl) ?_ _;rw[←Hlen.out]at adl;clear hcl hcc hd1 hd2;go_wp2;go_roundw
     case rel=>exact⟨k+1,acc++cb,by omega,by go_num,by rw[Hlen.out];omega,akI,adl,Hb3⟩
     case measure=>simp[intOf];omega
   ·have hd1:decide (ls.length≤y)=true:=decide_eq_true (by omega);have hrn:res=none:=aec.out (by rw[List.getElem?_eq_none (by omega)];rfl);have Hrn:=hid hrn;have Hbb:=hid (Hb1.out.trans (hbel.out.mono Hb1.out.size));clear hrn aec Hen;go_wp2;go_ret2;rw[Hrn.out];exact⟨rfl,Hbb.out⟩
  ·obtain rfl:k=bs.length:=by omega
   rw[List.take_length]at henc;have hrs:res=some (oN acc):=by rw[dQ.out,NA,henc.out,Option.map_some]
   have Hrs:=hid hrs;have hby:=jV w1.heap.size 0 _ _ wr (by omega) hws.out;rw[Py,←mK]at hby;have Hby:=hid hby;have hlt2:=JE acc;have Hcv:Hid (∀W A c,Reads W A (u8s (oN acc))→(convert 87 9 (.slice A (oN acc).length c)).run prog W=.ok (.string (strOf (oN acc))) W):=hid (fun W A c hrd=>bP W A c _ hlt2 hrd);clear hrs hby hws henc hlt2 Hno zU Hfl;generalize oN acc=tb at *;go_wp2_with fail
   refine Hby.out.mono ?_;rintro e w4 ⟨g4,rfl,hg4,hr4,hb4⟩;have hcv:=Hcv.out w4 _ tb.length (bR hr4);have Hb4:=hid (Hb1.out.trans ((hbel.out.trans (hb4.mono hbel.out.size)).mono Hb1.out.size));clear hr4 hb4 hbel Hby Hcv;go_wp2;go_ret2;rw[Hrs.out];exact⟨rfl,Hb4.out⟩
theorem WS.below{w w':World}{b off N n:Nat}(h:WS w b off N n)(hb:Below w.heap.size w w'):WS w' b off N n:=h.keep (row:=none) (ak hb none) (by simp) (by simp)
theorem RS.below{w w':World}{b off pos:Nat}{bs:List Nat}(h:RS w b off bs pos)(hb:Below w.heap.size w w'):RS w' b off bs pos:=h.keep (row:=none) (ak hb none) (by simp)
def tri(a b c:Nat):List Value:=[.int .i64 (a:Int),.int .i64 (b:Int),.int .i64 (c:Int)]
def JO:Option Bm.HB→Value
 | none=>.tuple #[.agg (tri 0 0 0).toArray,.int .u64 0,.int .i64 0]
 | some h=>.tuple #[.agg (tri h.1 h.2.1 h.2.2.1).toArray,.int .u64 (h.2.2.2.1:Int),.int .i64 (h.2.2.2.2:Int)]
structure HR(w W:World):Prop where
 ra:Row W w.heap.size 30 (tri 0 0 0)
 rb:Row W (w.heap.size+1) 30 (tri 0 0 0)
 bl:Below w.heap.size w W
theorem HR.call{w W W':World}(h:HR w W)(hb:Below W.heap.size W W'):HR w W':=
 ⟨h.ra.keep (hb.block _ h.ra.lt),h.rb.keep (hb.block _ h.rb.lt),h.bl.trans (hb.mono h.bl.size)⟩
theorem HR.start(w:World):HR w ((w.alloc (.cells (tri 0 0 0).toArray 30)).alloc (.cells (tri 0 0 0).toArray 30)):=by
 have hrb:=Row.new (w.alloc (.cells (tri 0 0 0).toArray 30)) 30 (tri 0 0 0);rw[show(w.alloc (.cells (tri 0 0 0).toArray 30)).heap.size=w.heap.size+1 by simp]at hrb;exact⟨(Row.new w 30 (tri 0 0 0)).alloc _,hrb,((Below.refl _ _).alloc (Nat.le_refl _) _).alloc (by simp) _⟩
theorem iB{W:World}{b:Nat}{t:TypeId}{x y z:Value}(h:Row W b t [x,y,z])(u0 u1 u2:Value):W.cell? ⟨b,0,none⟩=some x∧W.cell? ⟨b,1,none⟩=some y∧W.cell? ⟨b,2,none⟩=some z ∧
  W.frozen? ⟨b,0,none⟩=false∧W.frozen? ⟨b,1,none⟩=false∧W.frozen? ⟨b,2,none⟩=false∧(W.setCell ⟨b,0,none⟩ u0).cell? ⟨b,0,none⟩=some u0 ∧
  ((W.setCell ⟨b,0,none⟩ u0).setCell ⟨b,1,none⟩ u1).cell? ⟨b,1,none⟩=some u1∧(((W.setCell ⟨b,0,none⟩ u0).setCell ⟨b,1,none⟩ u1).setCell ⟨b,2,none⟩ u2).cell? ⟨b,2,none⟩=some u2:=
 ⟨h.cell 0,h.cell 1,h.cell 2,h.free 0,h.free 1,h.free 2,(h.aW 0 u0).cell 0,((h.aW 0 u0).aW 1 u1).cell 1,(((h.aW 0 u0).aW 1 u1).aW 2 u2).cell 2⟩
theorem KJ(bs:List Nat)(w:World)(hl:bs.length≤1000000)(hlt:∀x∈bs,x<256) :
  Calls prog 11 #[.string (strOf bs)] w fun e w'=>e=.returned (JO (gy bs))∧Below w.heap.size w w':=by
 have HS:=hid (HR.start w);have hsz:=ay bs;obtain⟨V,hV⟩:∃V,V=JO (gy bs):=⟨_,rfl⟩;rw[←hV];have V0:JO none=.tuple #[.agg #[.int .i64 0,.int .i64 0,.int .i64 0],.int .u64 0,.int .i64 0]:=rfl;cases bs with
 | nil=>
  have he:=vH [];rw[decide_eq_true rfl]at he;rw[show gy []=none from rfl,V0]at hV;subst hV;go_enter func11,ntmps11
  go_upto_region 3 with fail
  obtain⟨c0,c1,c2,-,-,-,-,-,-⟩:=iB HS.out.rb (.int .i64 0) (.int .i64 0) (.int .i64 0);obtain⟨d0,d1,d2',f0,f1,f2,s0',s1',s2'⟩:=iB HS.out.ra (.int .i64 0) (.int .i64 0) (.int .i64 0);have hbel:=HS.out.bl;go_wp2;exact bodyPost_ret (v:=.tuple #[.agg #[.int .i64 0,.int .i64 0,.int .i64 0],.int .u64 0,.int .i64 0]) (by simp[results,results11,go_sem]) rfl ⟨rfl,hbel⟩
 | cons x r=>
  have he:=vH (x :: r);rw[decide_eq_false (by simp)]at he;have hx:=hlt x List.mem_cons_self;have hix:∀W:World,(Instr.index 9 (.string (strOf (x :: r))) (.int .i64 0)).run prog W=.ok (.int .u8 (x:Int)) W:=fun W=>jD (x :: r) 0 W (by simp) (by simpa using hx)
  have hse:((strOf (x :: r)).toList == (ByteArray.mk #[]).toList)=false:=by
   rw[show(ByteArray.mk #[])=strOf []from rfl,mU _ _ hlt (by simp)];rfl
  unfold gy at hV;dsimp only at hV;by_cases h2:2<x
  ·rw[if_pos h2,V0]at hV;subst hV;have d2:decide ((2:Int)<(x:Int))=true:=decide_eq_true (by omega);clear hlt hx V0;generalize strOf (x :: r)=sX at *;go_enter func11,ntmps11
   go_upto_region 3 with fail
   obtain⟨c0,c1,c2,-,-,-,-,-,-⟩:=iB HS.out.rb (.int .i64 0) (.int .i64 0) (.int .i64 0);obtain⟨d0,d1,d2',f0,f1,f2,s0',s1',s2'⟩:=iB HS.out.ra (.int .i64 0) (.int .i64 0) (.int .i64 0);have hbel:=HS.out.bl;go_wp2;exact bodyPost_ret (v:=.tuple #[.agg #[.int .i64 0,.int .i64 0,.int .i64 0],.int .u64 0,.int .i64 0]) (by simp[results,results11,go_sem]) rfl ⟨rfl,hbel⟩
  ·rw[if_neg h2]at hV;have d2:decide ((2:Int)<(x:Int))=false:=decide_eq_false (by omega);have hfr:∀(i:Nat),i≤(x :: r).length→∀W:World,(Instr.slice 9 (.string (strOf (x :: r))) (some (.int .i64 (i:Int))) none none).run prog W=.ok (.string (strOf ((x :: r).drop i))) W:=fun i hi W=>kY (x :: r) i hi W
   have amC:∀W:World,(Instr.slice 9 (.string (strOf (x :: r))) (some (.int .i64 1)) none none).run prog W=.ok (.string (strOf r)) W:=fun W=>hfr 1 (by simp) W
   have hrl:r.length≤1000000:=by rw[List.length_cons]at hl;omega
   have adu:∀y∈r,y<256:=fun y hy=>hlt y (List.mem_cons_of_mem _ hy)
   have Hf1:=hid (fun W=>yP r W (by omega) adu);unfold uh at hV;obtain⟨⟨ep,k⟩,he1⟩:∃z,z=aj r:=⟨_,rfl⟩;have hep:ep<2^64∧k≤r.length:=by
    rcases Nat.eq_zero_or_pos k with h0 | h0
    ·subst h0;rw[vK r ep he1.symm];exact⟨by decide,Nat.zero_le _⟩
    ·have:=dW r ep k h0 he1.symm;exact⟨this.1,this.2.2⟩
   rw[←he1]at hV Hf1;dsimp only at hV Hf1;by_cases c1:0<k∧ep≤1073741824
   ·rw[if_pos c1]at hV;have d3:((k:Int) == 0)=false:=by rw[beq_eq_false_iff_ne];omega
    have d4:decide ((1073741824:Int)<(ep:Int))=false:=decide_eq_false (by omega);have hfr2:∀W:World,(Instr.slice 9 (.string (strOf (x :: r))) (some (.int .i64 (1+(k:Int)))) none none).run prog W=.ok (.string (strOf (r.drop k))) W:=fun W=>by
     have h:=hfr (1+k) (by rw[List.length_cons];omega) W;rw[Nat.add_comm 1,List.drop_succ_cons,show((k+1:Nat):Int)=1+(k:Int) by omega]at h;exact h
    have Hf2:=hid (fun W=>yP (r.drop k) W (by rw[List.length_drop];omega) (fun y hy=>adu y (List.mem_of_mem_drop hy)));obtain⟨⟨n,m⟩,he2⟩:∃z,z=aj (r.drop k):=⟨_,rfl⟩;have hn:n<2^64∧m≤r.length-k:=by
     rcases Nat.eq_zero_or_pos m with h0 | h0
     ·subst h0;rw[vK _ n he2.symm];exact⟨by decide,Nat.zero_le _⟩
     ·have:=dW (r.drop k) n m h0 he2.symm;rw[List.length_drop]at this;exact⟨this.1,this.2.2⟩
    rw[←he2]at hV Hf2;dsimp only at hV Hf2;by_cases c2:0<m∧n≤1099511627776∧k+m+8≤r.length
    ·rw[if_pos c2,Option.map_some]at hV;dsimp only at hV;have d5:((m:Int) == 0)=false:=by rw[beq_eq_false_iff_ne];omega
     have d6:decide ((1099511627776:Int)<(n:Int))=false:=decide_eq_false (by omega);have d7:decide ((((x :: r).length:Nat):Int)-(1+(k:Int)+(m:Int))<8)=false:=decide_eq_false (by rw[List.length_cons];omega);have hcut:∀W:World,(Instr.slice 9 (.string (strOf (x :: r))) (some (.int .i64 (1+(k:Int)+(m:Int)))) (some (.int .i64 (1+(k:Int)+(m:Int)+8))) none).run prog W=.ok (.string (strOf ((r.drop (k+m)).take 8))) W:=fun W=>by
      have h:=ahT (x :: r) (1+k+m) (1+k+m+8) (by omega) (by rw[List.length_cons];omega) W;rw[show((1+k+m:Nat):Int)=1+(k:Int)+(m:Int) by omega,show((1+k+m+8:Nat):Int)=1+(k:Int)+(m:Int)+8 by omega]at h;rw[h,List.drop_take,show 1+k+m+8-(1+k+m)=8 by omega,show 1+k+m=k+m+1 by omega,List.drop_succ_cons]
     have Hv:=hid (fun W=>Le ((r.drop (k+m)).take 8) W (by rw[List.length_take];omega) (fun y hy=>adu y (List.mem_of_mem_drop (List.mem_of_mem_take hy))));have hw1:IntKind.i64.wrap (1+(k:Int))=1+(k:Int):=by rw[IntWalk.i64_in _ (by omega)]
     have hw2:IntKind.i64.wrap (1+(k:Int)+(m:Int))=1+(k:Int)+(m:Int):=by rw[IntWalk.i64_in _ (by omega)]
     have hw3:IntKind.i64.wrap ((((x :: r).length:Nat):Int)-(1+(k:Int)+(m:Int)))=(((x :: r).length:Nat):Int)-(1+(k:Int)+(m:Int)):=by rw[List.length_cons,IntWalk.i64_in _ (by omega)]
     have hw4:IntKind.i64.wrap (1+(k:Int)+(m:Int)+8)=1+(k:Int)+(m:Int)+8:=by rw[IntWalk.i64_in _ (by omega)]
     have hwe:IntKind.i64.wrap (ep:Int)=(ep:Int):=by rw[IntWalk.i64_in _ (by omega)]
     have hwn:IntKind.i64.wrap (n:Int)=(n:Int):=by rw[IntWalk.i64_in _ (by omega)]
     have hwx:IntKind.i64.wrap (x:Int)=(x:Int):=by rw[IntWalk.i64_in _ (by omega)]
     obtain⟨s,hs⟩:∃s,s=aS ((r.drop (k+m)).take 8):=⟨_,rfl⟩;rw[←hs]at hV Hv;have Vs:V=.tuple #[.agg #[.int .i64 (x:Int),.int .i64 (ep:Int),.int .i64 (n:Int)],.int .u64 (s:Int),.int .i64 (1+(k:Int)+(m:Int)+8)]:=by
      rw[hV];unfold JO tri;dsimp only;rw[show((1+(k+m+8):Nat):Int)=1+(k:Int)+(m:Int)+8 by omega]
     subst Vs;clear hV hs hfr hl hrl hlt adu hx hep hn he1 he2 c1 c2 h2 V0;generalize strOf (x :: r)=sX at *;generalize (x :: r).length=lX at *;generalize strOf (List.take 8 (List.drop (k+m) r))=s8 at *;generalize strOf (r.drop k)=s2 at *;generalize strOf r=s1 at *;go_enter func11,ntmps11
     go_wp2_with fail
     refine(Hf1.out _).mono ?_;rintro e w1 ⟨rfl,hb1⟩;have HS1:=hid (HS.out.call hb1);clear hb1 Hf1 HS;go_wp2_with fail
     refine(Hf2.out _).mono ?_;rintro e w2 ⟨rfl,hb2⟩;have HS2:=hid (HS1.out.call hb2);clear hb2 Hf2 HS1;obtain⟨c0,c1,c2,f0,f1,f2,t0,t1,t2⟩:=iB HS2.out.rb (.int .i64 (x:Int)) (.int .i64 (ep:Int)) (.int .i64 (n:Int));have hrb:Row _ _ 30 (tri x ep n):=((HS2.out.rb.aW 0 (.int .i64 (x:Int))).aW 1 (.int .i64 (ep:Int))).aW 2 (.int .i64 (n:Int));have hra:=((HS2.out.ra.far (p:=⟨w.heap.size+1,0,none⟩) (by simp) (.int .i64 (x:Int))).far (p:=⟨w.heap.size+1,1,none⟩) (by simp) (.int .i64 (ep:Int))).far (p:=⟨w.heap.size+1,2,none⟩) (by simp) (.int .i64 (n:Int));have hbl:=((HS2.out.bl.setCell (p:=⟨w.heap.size+1,0,none⟩) (by simp) (.int .i64 (x:Int))).setCell (p:=⟨w.heap.size+1,1,none⟩) (by simp) (.int .i64 (ep:Int))).setCell (p:=⟨w.heap.size+1,2,none⟩) (by simp) (.int .i64 (n:Int));have Hrb:=hid hrb;have Hra:=hid hra;have Hbl:=hid hbl;clear hrb hra hbl HS2;go_upto_region 12 with fail
     clear c0 c1 c2 f0 f1 f2 t0 t1 t2;generalize ((w2.setCell ⟨w.heap.size+1,0,none⟩ (.int .i64 (x:Int))).setCell ⟨w.heap.size+1,1,none⟩ (.int .i64 (ep:Int))).setCell ⟨w.heap.size+1,2,none⟩ (.int .i64 (n:Int))=w3 at *;obtain⟨c0,c1,c2,-,-,-,-,-,-⟩:=iB Hrb.out (.int .i64 0) (.int .i64 0) (.int .i64 0);obtain⟨d0,d1,d2',f0,f1,f2,t0,t1,t2⟩:=iB Hra.out (.int .i64 (x:Int)) (.int .i64 (ep:Int)) (.int .i64 (n:Int));clear Hrb Hra;have hbel:=(((Hbl.out.setCell (p:=⟨w.heap.size,0,none⟩) (Nat.le_refl _) (.int .i64 (x:Int))).setCell (p:=⟨w.heap.size,1,none⟩) (Nat.le_refl _) (.int .i64 (ep:Int))).setCell (p:=⟨w.heap.size,2,none⟩) (Nat.le_refl _) (.int .i64 (n:Int))).drew;go_region_with (go_at_call 26;refine(Hv.out _).mono ?_;rintro e w4 ⟨rfl,rfl⟩)
     all_goals
      go_wp2;exact bodyPost_ret (v:=.tuple #[.agg #[.int .i64 (x:Int),.int .i64 (ep:Int),.int .i64 (n:Int)],.int .u64 (s:Int),.int .i64 (1+(k:Int)+(m:Int)+8)]) (by simp[results,results11,go_sem,t0,t1,t2]) rfl ⟨rfl,hbel⟩
    ·rw[if_neg c2,Option.map_none,V0]at hV;subst hV;have dd:(((m:Int) == 0) || decide ((1099511627776:Int)<(n:Int)) || decide ((((x :: r).length:Nat):Int)-(1+(k:Int)+(m:Int))<8))=true:=by
      rw[List.length_cons];by_cases e1:m=0
      ·subst e1;rfl
      ·by_cases e2:1099511627776<n
       ·rw[decide_eq_true (by omega:(1099511627776:Int)<(n:Int)),Bool.or_true,Bool.true_or]
       ·rw[decide_eq_true (by omega:((r.length+1:Nat):Int)-(1+(k:Int)+(m:Int))<8),Bool.or_true]
     have hw1:IntKind.i64.wrap (1+(k:Int))=1+(k:Int):=by rw[IntWalk.i64_in _ (by omega)]
     have hw2:IntKind.i64.wrap (1+(k:Int)+(m:Int))=1+(k:Int)+(m:Int):=by rw[IntWalk.i64_in _ (by omega)]
     have hw3:IntKind.i64.wrap ((((x :: r).length:Nat):Int)-(1+(k:Int)+(m:Int)))=(((x :: r).length:Nat):Int)-(1+(k:Int)+(m:Int)):=by rw[List.length_cons,IntWalk.i64_in _ (by omega)]
     clear hfr hl hrl hlt adu hx hep hn he1 he2 c1 c2 h2 V0;generalize strOf (x :: r)=sX at *;generalize (x :: r).length=lX at *;generalize strOf (r.drop k)=s2 at *;generalize strOf r=s1 at *;go_enter func11,ntmps11
     go_wp2_with fail
     refine(Hf1.out _).mono ?_;rintro e w1 ⟨rfl,hb1⟩;have HS1:=hid (HS.out.call hb1);clear hb1 Hf1 HS;go_wp2_with fail
     refine(Hf2.out _).mono ?_;rintro e w2 ⟨rfl,hb2⟩;have HS2:=hid (HS1.out.call hb2);clear hb2 Hf2 HS1;by_cases e1:((m:Int) == 0)=true
     ·clear dd;obtain⟨c0,c1,c2,-,-,-,-,-,-⟩:=iB HS2.out.rb (.int .i64 0) (.int .i64 0) (.int .i64 0);obtain⟨d0,d1,d2',f0,f1,f2,s0',s1',s2'⟩:=iB HS2.out.ra (.int .i64 0) (.int .i64 0) (.int .i64 0);have hbel:=((HS2.out.bl.setCell (p:=⟨w.heap.size,0,none⟩) (Nat.le_refl _) (.int .i64 0)).setCell (p:=⟨w.heap.size,1,none⟩) (Nat.le_refl _) (.int .i64 0)).setCell (p:=⟨w.heap.size,2,none⟩) (Nat.le_refl _) (.int .i64 0);go_wp2;exact bodyPost_ret (v:=.tuple #[.agg #[.int .i64 0,.int .i64 0,.int .i64 0],.int .u64 0,.int .i64 0]) (by simp[results,results11,go_sem,s0',s1',s2']) rfl ⟨rfl,hbel⟩
     ·have e1:((m:Int) == 0)=false:=by simpa using e1
      by_cases e2:decide ((1099511627776:Int)<(n:Int))=true
      ·clear dd;obtain⟨c0,c1,c2,-,-,-,-,-,-⟩:=iB HS2.out.rb (.int .i64 0) (.int .i64 0) (.int .i64 0);obtain⟨d0,d1,d2',f0,f1,f2,s0',s1',s2'⟩:=iB HS2.out.ra (.int .i64 0) (.int .i64 0) (.int .i64 0);have hbel:=((HS2.out.bl.setCell (p:=⟨w.heap.size,0,none⟩) (Nat.le_refl _) (.int .i64 0)).setCell (p:=⟨w.heap.size,1,none⟩) (Nat.le_refl _) (.int .i64 0)).setCell (p:=⟨w.heap.size,2,none⟩) (Nat.le_refl _) (.int .i64 0);go_wp2;exact bodyPost_ret (v:=.tuple #[.agg #[.int .i64 0,.int .i64 0,.int .i64 0],.int .u64 0,.int .i64 0]) (by simp[results,results11,go_sem,s0',s1',s2']) rfl ⟨rfl,hbel⟩
      ·have e2:decide ((1099511627776:Int)<(n:Int))=false:=by simpa using e2
       rw[e1,e2,Bool.false_or,Bool.false_or]at dd;obtain⟨c0,c1,c2,-,-,-,-,-,-⟩:=iB HS2.out.rb (.int .i64 0) (.int .i64 0) (.int .i64 0);obtain⟨d0,d1,d2',f0,f1,f2,s0',s1',s2'⟩:=iB HS2.out.ra (.int .i64 0) (.int .i64 0) (.int .i64 0);have hbel:=((HS2.out.bl.setCell (p:=⟨w.heap.size,0,none⟩) (Nat.le_refl _) (.int .i64 0)).setCell (p:=⟨w.heap.size,1,none⟩) (Nat.le_refl _) (.int .i64 0)).setCell (p:=⟨w.heap.size,2,none⟩) (Nat.le_refl _) (.int .i64 0);go_wp2;exact bodyPost_ret (v:=.tuple #[.agg #[.int .i64 0,.int .i64 0,.int .i64 0],.int .u64 0,.int .i64 0]) (by simp[results,results11,go_sem,s0',s1',s2']) rfl ⟨rfl,hbel⟩
   ·rw[if_neg c1,Option.map_none,V0]at hV;subst hV;have hkz:k=0∨(k≠0∧1073741824<ep):=by omega
    clear hfr hl hrl hlt adu hx hep he1 c1 h2 V0;generalize strOf (x :: r)=sX at *;generalize strOf r=s1 at *;go_enter func11,ntmps11
    go_wp2_with fail
    refine(Hf1.out _).mono ?_;rintro e w1 ⟨rfl,hb1⟩;have HS1:=hid (HS.out.call hb1);clear hb1 Hf1 HS;rcases hkz with rfl | ⟨hk0,hk1⟩
    ·obtain⟨c0,c1,c2,-,-,-,-,-,-⟩:=iB HS1.out.rb (.int .i64 0) (.int .i64 0) (.int .i64 0);obtain⟨d0,d1,d2',f0,f1,f2,s0',s1',s2'⟩:=iB HS1.out.ra (.int .i64 0) (.int .i64 0) (.int .i64 0);have hbel:=((HS1.out.bl.setCell (p:=⟨w.heap.size,0,none⟩) (Nat.le_refl _) (.int .i64 0)).setCell (p:=⟨w.heap.size,1,none⟩) (Nat.le_refl _) (.int .i64 0)).setCell (p:=⟨w.heap.size,2,none⟩) (Nat.le_refl _) (.int .i64 0);go_wp2;exact bodyPost_ret (v:=.tuple #[.agg #[.int .i64 0,.int .i64 0,.int .i64 0],.int .u64 0,.int .i64 0]) (by simp[results,results11,go_sem,s0',s1',s2']) rfl ⟨rfl,hbel⟩
    ·have d3:((k:Int) == 0)=false:=by rw[beq_eq_false_iff_ne];omega
     have d4:decide ((1073741824:Int)<(ep:Int))=true:=decide_eq_true (by omega);obtain⟨c0,c1,c2,-,-,-,-,-,-⟩:=iB HS1.out.rb (.int .i64 0) (.int .i64 0) (.int .i64 0);obtain⟨d0,d1,d2',f0,f1,f2,s0',s1',s2'⟩:=iB HS1.out.ra (.int .i64 0) (.int .i64 0) (.int .i64 0);have hbel:=((HS1.out.bl.setCell (p:=⟨w.heap.size,0,none⟩) (Nat.le_refl _) (.int .i64 0)).setCell (p:=⟨w.heap.size,1,none⟩) (Nat.le_refl _) (.int .i64 0)).setCell (p:=⟨w.heap.size,2,none⟩) (Nat.le_refl _) (.int .i64 0);go_wp2;exact bodyPost_ret (v:=.tuple #[.agg #[.int .i64 0,.int .i64 0,.int .i64 0],.int .u64 0,.int .i64 0]) (by simp[results,results11,go_sem,s0',s1',s2']) rfl ⟨rfl,hbel⟩
theorem EJ(X:List Nat)(ep:Nat)(w:World)(hX:X.length≤100000)(hlt:∀x∈X,x<256)(hep:ep≤1073741824) :
  Calls prog 12 #[.string (strOf X),.int .i64 (ep:Int)] w fun e w'=>e=.returned (.string (strOf (hdB 0 ep X++X)))∧Below w.heap.size w w':=by
 have hsz:=ay X;have g1:=dx ep (by omega);have g2:=dx X.length (by omega);have hw:IntKind.u64.wrap (ep:Int)=(ep:Int):=nN ep (by omega);have Hg:=hid (fun W=>qY ep W (by omega));have Ht:=hid (fun W=>PU X W (by omega));have Hs:=hid (fun W=>aaU X W (by omega) hlt);have Hf:=hid (fun W=>Lb (Bm.sumOf X) 8 W (Bp X));rw[show fx 8=8 by decide]at Hf;have h8:=Bm.bytesOf_length (Bm.sumOf X) 8;have a1:∀W:World,(Op.stringOp .add (ByteArray.mk #[0]) (strOf (grp ep))).run prog W=.ok (.string (strOf (0 :: grp ep))) W:=fun W=>jM [0] (grp ep) (by simp;omega) W
 have hst:=ay (grp X.length++X);rw[List.length_append]at hst;have a2:∀W:World,(Instr.slice 9 (.string (strOf (grp X.length++X))) none (some (.int .i64 ((grp X.length).length:Int))) none).run prog W=.ok (.string (strOf (grp X.length))) W:=fun W=>by
  have h:=oh (grp X.length++X) (grp X.length).length (by rw[List.length_append];omega) W;rw[List.take_left]at h;exact h
 have a3:=fun W=>jM (0 :: grp ep) (grp X.length) (by rw[List.length_cons];omega) W
 have a4:=fun W=>jM (0 :: grp ep++grp X.length) (Bm.bytesOf (Bm.sumOf X) 8) (by rw[List.length_append,List.length_cons,h8];omega) W
 have a5:=fun W=>jM (0 :: grp ep++grp X.length++Bm.bytesOf (Bm.sumOf X) 8) X (by simp only[List.length_append,List.length_cons,h8];omega) W
 have e5:0 :: grp ep++grp X.length++Bm.bytesOf (Bm.sumOf X) 8++X=hdB 0 ep X++X:=by unfold hdB;simp
 rw[e5]at a5;have hsub:IntKind.i64.wrap ((grp X.length).length:Int)=((grp X.length).length:Int):=by rw[IntWalk.i64_in _ (by omega)]
 clear e5 hX hlt hep g1 g2 h8;generalize strOf (hdB 0 ep X++X)=s6 at *;generalize strOf (0 :: grp ep++grp X.length++Bm.bytesOf (Bm.sumOf X) 8)=s5 at *;generalize strOf (0 :: grp ep++grp X.length)=s4 at *;generalize strOf (Bm.bytesOf (Bm.sumOf X) 8)=s3 at *;generalize strOf (grp X.length++X)=st at *;generalize strOf (0 :: grp ep)=s2 at *;generalize strOf (grp ep)=s1 at *;generalize strOf (grp X.length)=sg at *;generalize (grp X.length).length=lg at *;generalize strOf X=sX at *;generalize X.length=lX at *;generalize Bm.sumOf X=y at *;have HbX:=hid (Below.refl w.heap.size w).drew;go_enter func12,ntmps12
 go_upto_region 1 with fail
 refine wp_region_held_drew (S:=(fun _:World=>True)) (by kernel_rfl) (by trivial) (fun hHeld=>?_);refine wpAnyH_take (i:=0) (oi:={dst:=some 5,op:=.move (.tmp 1),type:=3,pos:= "ref.go:33",after:=#[],guard:=none}) (v:=?_) rfl (by kernel_rfl) (by kernel_rfl) (by kernel_rfl) (fun _ _ _ h=>h) (Or.inl ⟨by rfl,?_⟩) (by assumption) ?_;rotate_left
 ·(intro w hSw;(try dsimp only at hSw);go_simp;(try with_reducible rfl))
 try simp only[Act.put,List.setIfInBounds_toArray,List.set_cons_zero,List.set_cons_succ]
 refine wpAnyH_take (i:=1) (oi:={dst:=some 6,op:=.convert 3 31 (.tmp 5),type:=31,pos:= "ref.go:33",after:=#[{on:=0,ground:=.data}],guard:=none}) (v:=?_) rfl (by kernel_rfl) (by kernel_rfl) (by kernel_rfl) (fun _ _ _ h=>h) (Or.inl ⟨by rfl,?_⟩) (by assumption) ?_;rotate_left
 ·(intro w hSw;(try dsimp only at hSw);go_simp;(try with_reducible rfl))
 try simp only[Act.put,List.setIfInBounds_toArray,List.set_cons_zero,List.set_cons_succ]
 refine wpAnyH_take (i:=4) (oi:={dst:=some 9,op:=.move (.tmp 0),type:=9,pos:= "ref.go:33",after:=#[],guard:=none}) (v:=?_) rfl (by kernel_rfl) (by kernel_rfl) (by kernel_rfl) (fun _ _ _ h=>h) (Or.inl ⟨by rfl,?_⟩) (by assumption) ?_;rotate_left
 ·(intro w hSw;(try dsimp only at hSw);go_simp;(try with_reducible rfl))
 try simp only[Act.put,List.setIfInBounds_toArray,List.set_cons_zero,List.set_cons_succ]
 refine wpAnyH_take (i:=6) (oi:={dst:=some 11,op:=.move (.tmp 0),type:=9,pos:= "ref.go:33",after:=#[],guard:=none}) (v:=?_) rfl (by kernel_rfl) (by kernel_rfl) (by kernel_rfl) (fun _ _ _ h=>h) (Or.inl ⟨by rfl,?_⟩) (by assumption) ?_;rotate_left
 ·(intro w hSw;(try dsimp only at hSw);go_simp;(try with_reducible rfl))
 try simp only[Act.put,List.setIfInBounds_toArray,List.set_cons_zero,List.set_cons_succ]
 refine wpAnyH_take (i:=9) (oi:={dst:=some 14,op:=.move (.tmp 0),type:=9,pos:= "ref.go:33",after:=#[],guard:=none}) (v:=?_) rfl (by kernel_rfl) (by kernel_rfl) (by kernel_rfl) (fun _ _ _ h=>h) (Or.inl ⟨by rfl,?_⟩) (by assumption) ?_;rotate_left
 ·(intro w hSw;(try dsimp only at hSw);go_simp;(try with_reducible rfl))
 try simp only[Act.put,List.setIfInBounds_toArray,List.set_cons_zero,List.set_cons_succ]
 refine wpAnyH_take (i:=10) (oi:={dst:=some 15,op:=.call {callee:=.builtin .len,args:=#[.tmp 14],argTypes:=#[9]},type:=3,pos:= "ref.go:33",after:=#[{on:=9,ground:=.data}],guard:=none}) (v:=?_) rfl (by kernel_rfl) (by kernel_rfl) (by kernel_rfl) (fun _ _ _ h=>h) (Or.inl ⟨by rfl,?_⟩) (by assumption) ?_;rotate_left
 ·(intro w hSw;(try dsimp only at hSw);go_simp;(try with_reducible rfl))
 try simp only[Act.put,List.setIfInBounds_toArray,List.set_cons_zero,List.set_cons_succ]
 refine wpAnyH_take (i:=14) (oi:={dst:=some 19,op:=.move (.tmp 0),type:=9,pos:= "ref.go:33",after:=#[],guard:=none}) (v:=?_) rfl (by kernel_rfl) (by kernel_rfl) (by kernel_rfl) (fun _ _ _ h=>h) (Or.inl ⟨by rfl,?_⟩) (by assumption) ?_;rotate_left
 ·(intro w hSw;(try dsimp only at hSw);go_simp;(try with_reducible rfl))
 try simp only[Act.put,List.setIfInBounds_toArray,List.set_cons_zero,List.set_cons_succ]
 refine wpAnyH_take (i:=18) (oi:={dst:=some 23,op:=.move (.tmp 0),type:=9,pos:= "ref.go:33",after:=#[],guard:=none}) (v:=?_) rfl (by kernel_rfl) (by kernel_rfl) (by kernel_rfl) (fun _ _ _ h=>h) (Or.inl ⟨by rfl,?_⟩) (by assumption) ?_;rotate_left
 ·(intro w hSw;(try dsimp only at hSw);go_simp;(try with_reducible rfl))
 try simp only[Act.put,List.setIfInBounds_toArray,List.set_cons_zero,List.set_cons_succ]
 refine wpAnyH_ready (rs:=[2]) (by kernel_rfl) (by simp) ?_;refine AllReadyH.cons (o:={dst:=some 7,op:=.call {callee:=.value (.func 27),args:=#[.tmp 6],argTypes:=#[31]},type:=9,pos:= "ref.go:33",after:=#[{on:=1,ground:=.data}],guard:=none}) rfl (fun K hK=>?_) AllReadyH.nil;go_simp
 (go_at_call 27;refine(Hg.out _).mono ?_;rintro e w1 ⟨rfl,hb1⟩;have HY1:=hid (HbX.out.trans (hb1.mono HbX.out.size));clear hb1)
 go_simp;refine hK.out _ _ (by trivial) (fun hHeld=>?_);clear hK K
 try simp only[Act.put,List.setIfInBounds_toArray,List.set_cons_zero,List.set_cons_succ]
 refine wpAnyH_take (i:=3) (oi:={dst:=some 8,op:=.binOp .add 9 (.const (.string {data:=#[0]})) (.tmp 7) 9,type:=9,pos:= "ref.go:33",after:=#[{on:=2,ground:=.data}],guard:=none}) (v:=?_) rfl (by kernel_rfl) (by kernel_rfl) (by kernel_rfl) (fun _ _ _ h=>h) (Or.inl ⟨by rfl,?_⟩) (by assumption) ?_;rotate_left
 ·(intro w hSw;(try dsimp only at hSw);go_simp;(try with_reducible rfl))
 try simp only[Act.put,List.setIfInBounds_toArray,List.set_cons_zero,List.set_cons_succ]
 refine wpAnyH_ready (rs:=[5]) (by kernel_rfl) (by simp) ?_;refine AllReadyH.cons (o:={dst:=some 10,op:=.call {callee:=.value (.func 28),args:=#[.tmp 9],argTypes:=#[9]},type:=9,pos:= "ref.go:33",after:=#[{on:=4,ground:=.data},{on:=2,ground:=.chain}],guard:=none}) rfl (fun K hK=>?_) AllReadyH.nil;go_simp
 (go_at_call 28;refine(Ht.out _).mono ?_;rintro e w2 ⟨rfl,hb2⟩;have HY2:=hid (HY1.out.trans (hb2.mono HY1.out.size));clear hb2)
 go_simp;refine hK.out _ _ (by trivial) (fun hHeld=>?_);clear hK K
 try simp only[Act.put,List.setIfInBounds_toArray,List.set_cons_zero,List.set_cons_succ]
 refine wpAnyH_ready (rs:=[7]) (by kernel_rfl) (by simp) ?_;refine AllReadyH.cons (o:={dst:=some 12,op:=.call {callee:=.value (.func 28),args:=#[.tmp 11],argTypes:=#[9]},type:=9,pos:= "ref.go:33",after:=#[{on:=6,ground:=.data},{on:=5,ground:=.chain}],guard:=none}) rfl (fun K hK=>?_) AllReadyH.nil;go_simp
 (go_at_call 28;refine(Ht.out _).mono ?_;rintro e w3 ⟨rfl,hb3⟩;have HY3:=hid (HY2.out.trans (hb3.mono HY2.out.size));clear hb3)
 go_simp;refine hK.out _ _ (by trivial) (fun hHeld=>?_);clear hK K
 try simp only[Act.put,List.setIfInBounds_toArray,List.set_cons_zero,List.set_cons_succ]
 refine wpAnyH_take (i:=8) (oi:={dst:=some 13,op:=.call {callee:=.builtin .len,args:=#[.tmp 12],argTypes:=#[9]},type:=3,pos:= "ref.go:33",after:=#[{on:=7,ground:=.data}],guard:=none}) (v:=?_) rfl (by kernel_rfl) (by kernel_rfl) (by kernel_rfl) (fun _ _ _ h=>h) (Or.inl ⟨by rfl,?_⟩) (by assumption) ?_;rotate_left
 ·(intro w hSw;(try dsimp only at hSw);go_simp;(try with_reducible rfl))
 try simp only[Act.put,List.setIfInBounds_toArray,List.set_cons_zero,List.set_cons_succ]
 refine wpAnyH_take (i:=11) (oi:={dst:=some 16,op:=.binOp .sub 3 (.tmp 13) (.tmp 15) 3,type:=3,pos:= "ref.go:33",after:=#[{on:=8,ground:=.data},{on:=10,ground:=.data}],guard:=none}) (v:=?_) rfl (by kernel_rfl) (by kernel_rfl) (by kernel_rfl) (fun _ _ _ h=>h) (Or.inl ⟨by rfl,?_⟩) (by assumption) ?_;rotate_left
 ·(intro w hSw;(try dsimp only at hSw);go_simp;(try with_reducible rfl))
 try simp only[Act.put,List.setIfInBounds_toArray,List.set_cons_zero,List.set_cons_succ]
 refine wpAnyH_take (i:=12) (oi:={dst:=some 17,op:=.slice 9 (.tmp 10) none (some (.tmp 16)) none,type:=9,pos:= "ref.go:33",after:=#[{on:=5,ground:=.data},{on:=11,ground:=.data}],guard:=none}) (v:=?_) rfl (by kernel_rfl) (by kernel_rfl) (by kernel_rfl) (fun _ _ _ h=>h) (Or.inl ⟨by rfl,?_⟩) (by assumption) ?_;rotate_left
 ·(intro w hSw;(try dsimp only at hSw);go_simp;(try with_reducible rfl))
 try simp only[Act.put,List.setIfInBounds_toArray,List.set_cons_zero,List.set_cons_succ]
 refine wpAnyH_take (i:=13) (oi:={dst:=some 18,op:=.binOp .add 9 (.tmp 8) (.tmp 17) 9,type:=9,pos:= "ref.go:33",after:=#[{on:=3,ground:=.data},{on:=12,ground:=.data}],guard:=none}) (v:=?_) rfl (by kernel_rfl) (by kernel_rfl) (by kernel_rfl) (fun _ _ _ h=>h) (Or.inl ⟨by rfl,?_⟩) (by assumption) ?_;rotate_left
 ·(intro w hSw;(try dsimp only at hSw);go_simp;(try with_reducible rfl))
 try simp only[Act.put,List.setIfInBounds_toArray,List.set_cons_zero,List.set_cons_succ]
 refine wpAnyH_ready (rs:=[15]) (by kernel_rfl) (by simp) ?_;refine AllReadyH.cons (o:={dst:=some 20,op:=.call {callee:=.value (.func 24),args:=#[.tmp 19],argTypes:=#[9]},type:=31,pos:= "ref.go:33",after:=#[{on:=14,ground:=.data},{on:=7,ground:=.chain}],guard:=none}) rfl (fun K hK=>?_) AllReadyH.nil;go_simp
 (go_at_call 24;refine(Hs.out _).mono ?_;rintro e w4 ⟨rfl,rfl⟩)
 go_simp;refine hK.out _ _ (by trivial) (fun hHeld=>?_);clear hK K
 try simp only[Act.put,List.setIfInBounds_toArray,List.set_cons_zero,List.set_cons_succ]
 refine wpAnyH_ready (rs:=[16]) (by kernel_rfl) (by simp) ?_;refine AllReadyH.cons (o:={dst:=some 21,op:=.call {callee:=.value (.func 29),args:=#[.tmp 20,.const (.int .i64 8)],argTypes:=#[31,3]},type:=9,pos:= "ref.go:33",after:=#[{on:=15,ground:=.data},{on:=15,ground:=.chain}],guard:=none}) rfl (fun K hK=>?_) AllReadyH.nil;go_simp
 (go_at_call 29;refine(Hf.out _).mono ?_;rintro e w5 ⟨rfl,hb5⟩;have HY5:=hid (HY3.out.trans (hb5.mono HY3.out.size));clear hb5)
 go_simp;refine hK.out _ _ (by trivial) (fun hHeld=>?_);clear hK K
 try simp only[Act.put,List.setIfInBounds_toArray,List.set_cons_zero,List.set_cons_succ]
 refine wpAnyH_take (i:=17) (oi:={dst:=some 22,op:=.binOp .add 9 (.tmp 18) (.tmp 21) 9,type:=9,pos:= "ref.go:33",after:=#[{on:=13,ground:=.data},{on:=16,ground:=.data}],guard:=none}) (v:=?_) rfl (by kernel_rfl) (by kernel_rfl) (by kernel_rfl) (fun _ _ _ h=>h) (Or.inl ⟨by rfl,?_⟩) (by assumption) ?_;rotate_left
 ·(intro w hSw;(try dsimp only at hSw);go_simp;(try with_reducible rfl))
 try simp only[Act.put,List.setIfInBounds_toArray,List.set_cons_zero,List.set_cons_succ]
 refine wpAnyH_take (i:=19) (oi:={dst:=some 24,op:=.binOp .add 9 (.tmp 22) (.tmp 23) 9,type:=9,pos:= "ref.go:33",after:=#[{on:=17,ground:=.data},{on:=18,ground:=.data}],guard:=none}) (v:=?_) rfl (by kernel_rfl) (by kernel_rfl) (by kernel_rfl) (fun _ _ _ h=>h) (Or.inl ⟨by rfl,?_⟩) (by assumption) ?_;rotate_left
 ·(intro w hSw;(try dsimp only at hSw);go_simp;(try with_reducible rfl))
 try simp only[Act.put,List.setIfInBounds_toArray,List.set_cons_zero,List.set_cons_succ]
 refine wpAnyH_take (i:=20) (oi:={dst:=some 4,op:=.assign (.tmp 24),type:=9,pos:= "ref.go:33",after:=#[{on:=19,ground:=.data},{on:=16,ground:=.chain},{on:=0,ground:=.phase},{on:=1,ground:=.phase},{on:=2,ground:=.phase},{on:=3,ground:=.phase},{on:=4,ground:=.phase},{on:=5,ground:=.phase},{on:=6,ground:=.phase},{on:=7,ground:=.phase},{on:=8,ground:=.phase},{on:=9,ground:=.phase},{on:=10,ground:=.phase},{on:=11,ground:=.phase},{on:=12,ground:=.phase},{on:=13,ground:=.phase},{on:=14,ground:=.phase},{on:=15,ground:=.phase},{on:=16,ground:=.phase},{on:=17,ground:=.phase},{on:=18,ground:=.phase},{on:=19,ground:=.phase}],guard:=none}) (v:=?_) rfl (by kernel_rfl) (by kernel_rfl) (by kernel_rfl) (fun _ _ _ h=>h) (Or.inl ⟨by rfl,?_⟩) (by assumption) ?_;rotate_left
 ·(intro w hSw;(try dsimp only at hSw);go_simp;(try with_reducible rfl))
 try simp only[Act.put,List.setIfInBounds_toArray,List.set_cons_zero,List.set_cons_succ]
 refine wpAnyH_done (by kernel_rfl) ?_ _;go_wp2;go_ret;exact⟨rfl,HY5.out⟩
end Go.Proofs.YtgiicohbigiapaaGreat
