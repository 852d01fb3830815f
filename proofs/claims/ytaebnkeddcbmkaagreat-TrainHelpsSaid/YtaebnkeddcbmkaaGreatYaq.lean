/- Contracts, and what they rest on. Conditions: the theorems' premises. -/
import Derived.Test.YtaebnkeddcbmkaaGreatYal
set_option maxHeartbeats 4000000
set_option maxRecDepth 100000
open Go.Lib(hid)
open Go.Proofs.Tryz Go.Proofs.YtaebnkeddcbmkaaGreat.Bm
namespace Go.Proofs.YtaebnkeddcbmkaaGreat
open Go.RowKit Go.Maps Go.Proofs.YtaebnkeddcbmkaaGreat.Bm
def wor(F:ByteArray->Option Nat)(t:ByteArray):Nat:=kD (val F) [] (gms t)
def XM(w:World)(base p:Nat)(L:List Pce):Prop:=iw L L.length/\∃g cap,fu w base p g cap L
def XU(base p:Nat)(F:ByteArray->Option Nat)(C:List ByteArray)(w:World)(e:Ending)(w':World):Prop:=
 ((∃(x:Pce) (L':List Pce),e=.returned (.tuple #[pcV x,.bool true])/\0<x.2.1/\scan (wor F) C (⟨#[]⟩,0)=(x.1,x.2.1)/\ql C (wor F) (x :: L')/\L'.length<=100000/\XM w' base p L') \/
  (e=.returned (.tuple #[pcV oI,.bool false])/\scan (wor F) C (⟨#[]⟩,0)=(⟨#[]⟩,0)))/\jR base w w'
def XT(base p g0:Nat)(C:List ByteArray)(v:ByteArray->Nat)(w1 wr:World)(L:List Pce)(g cap:Nat):Prop:=
 L.length<=100000/\iw L L.length/\fu wr base p g cap L/\ql C v L/\bB base p g0 w1 wr/\(g=g0\/w1.heap.size<=g)
theorem jR.after{base B:Nat}{w w2 w3:World}(h:jR base w w2)(hB:Below B w2 w3)(hb:base<=B)(hw:w.heap.size<=B):jR base w w3:=
 ⟨h.bel.trans (hB.mono hb),fun b h1 h2=>(hB.block b (Nat.lt_of_lt_of_le h1 hw)).trans (h.blk b h1 h2)⟩
theorem Ni{base p:Nat}{F:ByteArray->Option Nat}{C:List ByteArray}{w w2 w3:World}{L':List Pce}{g cap:Nat}{x:Pce}(hb:base<=w.heap.size)(hi:ql C (wor F) (x :: L'))(hl:L'.length<=100000)(hle:∀y∈L',¬lt3 y x)(hh:iw L' L'.length)
  (he:wor F x.1=x.2.1) (hpl:fu w3 base p g cap L') (hk:jR base w w2) (hB:Below w.heap.size w2 w3) :
  XU base p F C w (.returned (.tuple #[pcV x,.bool true])) w3:=
 ⟨.inl ⟨x,L',rfl,(hi.1 x List.mem_cons_self).2.1,by rw[Og hi hle he,he],hi,hl,⟨hh,g,cap,hpl⟩⟩,hk.after hB hb (Nat.le_refl _)⟩
theorem Wo{w:World}{b B:Nat}(u v y:Value)(o:Obj)(hb:B<=b)(hB:B<=w.heap.size):Below B w ((((w.setCell ⟨b,0,none⟩ u).setCell ⟨b,1,none⟩ v).setCell ⟨b,2,none⟩ y).alloc o):=
 below_grown (aF (aB (aB (aB (aj w (some b)) 0 u) 1 v) 2 y) o) hb hB
theorem Vj{w:World}{base p g cap b:Nat}{L:List Pce}(h:fu w base p g cap L)(hp:p≠b)(hg:g≠b)(u v y:Value)(o:Obj):fu ((((w.setCell ⟨b,0,none⟩ u).setCell ⟨b,1,none⟩ v).setCell ⟨b,2,none⟩ y).alloc o) base p g cap L:=by
 have hgr:=aF (aB (aB (aB (aj w (some b)) 0 u) 1 v) 2 y) o;obtain⟨_,_,hr⟩:=h.row;exact h.Uc (hgr.block p h.var.lt (by intro e;injection e with e;exact hp e)) (hgr.block g hr.lt (by intro e;injection e with e;exact hg e))
theorem Xc(base p bw n g0 cap0:Nat)(F:ByteArray->Option Nat)(C:List ByteArray)(L0:List Pce)(w:World)(hb:base<=w.heap.size)(hL:L0.length<=100000)(hC:∀t∈C,t.size<=16)(hF:∀g,val F g<=1000)
  (hh:iw L0 L0.length) (hpl:fu w base p g0 cap0 L0) (hi:ql C (wor F) L0) (hmap:jy w bw n F) (hmax:zx base w) :
  Calls prog 25 #[.pointer (some ⟨p,0,none⟩),.map (some bw)] w fun e w'=>XU base p F C w e w':=by
 obtain⟨w1,hw1⟩:∃w1,w1=w.alloc (.cells #[.string ⟨#[]⟩,.int .i64 0,.int .i64 0] 55):=⟨_,rfl⟩;have hbl:Below w.heap.size w w1:=by rw[hw1];exact(Below.refl _ _).alloc (Nat.le_refl _) _
 have hra:Row w1 w.heap.size 55 [.string ⟨#[]⟩,.int .i64 0,.int .i64 0]:=by rw[hw1];exact Row.new w 55 [.string ⟨#[]⟩,.int .i64 0,.int .i64 0]
 have aoh:=hpl.var.lt;have anQ:g0<w.heap.size:=by obtain⟨_,_,hr⟩:=hpl.row;exact hr.lt
 have hp1:=hpl.below hbl;have Hw1:=hid hw1;have Hbl:=hid hbl;have Hra:=hid hra;have Hb:=hid hb;have HC:=hid hC;have HF:=hid hF;have Hp1:Hid (∃L0 cap0,fu w1 base p g0 cap0 L0):=hid ⟨L0,cap0,hp1⟩;have Hb1:Hid (base<=w1.heap.size):=hid (Nat.le_trans hb hbl.size);have HI0:Hid (XT base p g0 C (wor F) w1 w1 L0 g0 cap0):=hid ⟨hL,hh,hp1,hi,bB.refl _ _ _ _,.inl rfl⟩;have Hm1:=hid (hmap.below hbl);have Hx1:=hid (hmax.below (hbl.mono hb));have agX:=hid aoh;have agT:=hid anQ;clear hbl hra hb hC hF hh hpl hi hmap hmax hL hp1 aoh anQ;go_enter func25,ntmps25
 go_wp2;rw[<-hw1];clear hw1;go_loopw [13] (fun _ wr=>∃(L:List Pce) (g cap:Nat),Hid (XT base p g0 C (wor F) w1 wr L g cap)) (fun _ wr=>ahk wr p)
 case atStart=>exact⟨L0,g0,cap0,HI0⟩
 case round=>
  obtain⟨L,g,cap,HI⟩:=hrel;clear HI0;have c0:=HI.out.2.2.1.cell;have Hwr:Hid (bB base p g0 w1 wr):=hid HI.out.2.2.2.2.1;have hrr:Row wr w.heap.size 55 [.string ⟨#[]⟩,.int .i64 0,.int .i64 0]:=Hra.out.keep (Hwr.out.blk _ Hra.out.lt (by have:=agX.out;omega) (by have:=agT.out;omega));have Hrr:=hid hrr;have Hlen:Hid (∀W,Calls prog 50 #[.slice (some ⟨g,0,none⟩) L.length cap] W fun e w'=>e=.returned (.int .i64 (L.length:Int))/\W=w'):=hid (fun W=>qV (some ⟨g,0,none⟩) L.length cap W);have hl1:=HI.out.1;by_cases hl0:L.length=0
  ·have hL0:L=[]:=List.eq_nil_of_length_eq_zero hl0;have t0:=hrr.cell 0;have t1:=hrr.cell 1;have t2:=hrr.cell 2;have f0:=hrr.free 0;have f1:=hrr.free 1;have f2:=hrr.free 2;simp only[List.getElem?_cons_zero,List.getElem?_cons_succ]at t0 t1 t2;have s0:=((hrr.aT 0 (.string ⟨#[]⟩)).cell 0);have s1:=(((hrr.aT 0 (.string ⟨#[]⟩)).aT 1 (.int .i64 0)).cell 1);have s2:=((((hrr.aT 0 (.string ⟨#[]⟩)).aT 1 (.int .i64 0)).aT 2 (.int .i64 0)).cell 2);simp only[List.set_cons_zero,List.set_cons_succ,List.getElem?_cons_zero,List.getElem?_cons_succ]at s0 s1 s2;have aiV:jR base w (((wr.setCell ⟨w.heap.size,0,none⟩ (.string ⟨#[]⟩)).setCell ⟨w.heap.size,1,none⟩ (.int .i64 0)).setCell ⟨w.heap.size,2,none⟩ (.int .i64 0)):=by
    obtain⟨_,_,hq⟩:=Hp1.out;have hk1:=(jR.below Hbl.out Hb.out).trans (Hwr.out.kept hq);refine⟨hk1.bel.trans (below_grown (aB (aB (aB (aj wr (some w.heap.size)) 0 _) 1 _) 2 _) Hb.out (Nat.le_trans Hb1.out Hwr.out.bel.size)),fun b h1 h2=>?_⟩;exact((aB (aB (aB (aj wr (some w.heap.size)) 0 (.string ⟨#[]⟩)) 1 (.int .i64 0)) 2 (.int .i64 0)).block b (Nat.lt_of_lt_of_le (Nat.lt_of_lt_of_le h1 Hbl.out.size) Hwr.out.bel.size) (by intro e;injection e with e;omega)).trans (hk1.blk b h1 h2)
   have dR:Hid (XU base p F C w (.returned (.tuple #[.agg #[.string ⟨#[]⟩,.int .i64 0,.int .i64 0],.bool false])) (((wr.setCell ⟨w.heap.size,0,none⟩ (.string ⟨#[]⟩)).setCell ⟨w.heap.size,1,none⟩ (.int .i64 0)).setCell ⟨w.heap.size,2,none⟩ (.int .i64 0))):=hid ⟨.inr ⟨rfl,Tx (by have:=HI.out.2.2.2.1;rw[hL0]at this;exact this)⟩,aiV⟩;rw[hl0]at c0 Hlen;clear hrr aiV hL0 hl0;go_wp2_with fail
   refine(Hlen.out _).mono ?_;rintro e w2 ⟨rfl,rfl⟩;clear Hlen;go_wp2;exact bodyPost_ret (v:=.tuple #[.agg #[.string ⟨#[]⟩,.int .i64 0,.int .i64 0],.bool false]) (by simp[results,results25,go_sem,s0,s1,s2]) rfl dR.out
  ·obtain⟨m,hm⟩:∃m,L.length=m+1:=⟨L.length-1,by omega⟩;have Hm:=hid hm;obtain⟨⟨tx,a,q⟩,hx⟩:∃x,x=Bm.at3 L 0:=⟨_,rfl⟩;have QA:Hid (Calls prog 51 #[.iface 52 (.pointer (some ⟨p,0,none⟩))] wr fun e w'=>e=.returned (.iface 55 (.agg #[.string tx,.int .i64 (a:Int),.int .i64 (q:Int)]))/\akj wr w' base p g cap L (tx,a,q)):=by
    have h1:=TI base p g cap m L wr (Nat.le_trans Hb1.out Hwr.out.bel.size) hl1 hm HI.out.2.1 HI.out.2.2.1;rw[<-hx]at h1;exact hid h1
   have hta:=fun W=>MK (.agg #[.string tx,.int .i64 (a:Int),.int .i64 (q:Int)]) W
   rw[hm]at c0 Hlen hl1;clear hx hrr hm hl0;go_wp2_with fail
   refine(Hlen.out _).mono ?_;rintro e w2 ⟨rfl,rfl⟩;clear Hlen;go_wp2_with fail
   refine QA.out.mono ?_;rintro e w2 ⟨rfl,L',hpm,hle,hhp,pG,hk2⟩;have hxi:=(wW hpm.symm HI.out.2.2.2.1);obtain⟨hx1,hx2,hx3⟩:=hxi.1 _ List.mem_cons_self;obtain⟨nw,hnw⟩:∃nw,nw=wor F tx:=⟨_,rfl⟩;have arn:nw<=a:=by rw[hnw];exact hx3
   have htx:tx.size<=16:=HC.out tx (List.mem_of_getElem? (show C[q]?=some tx from hx1));have aeP:bB base p g0 w1 w2:=HI.out.2.2.2.2.1.Xi HI.out.2.2.2.2.2 hk2;have hq1:=Hp1.out;obtain⟨L1,Sg,hq1⟩:=hq1;have anX:jR base w w2:=(jR.below Hbl.out Hb.out).trans (aeP.kept hq1);have hm2:jy w2 bw n F:=Hm1.out.keep (aeP.blk bw Hm1.out.lt (Hm1.out.ne hq1.var) (by obtain⟨_,_,hr⟩:=hq1.row;exact Hm1.out.ne hr));have aoN:zx base w2:=Hx1.out.below aeP.bel;have hal:∀o:Obj,Below w2.heap.size w2 (w2.alloc o):=fun o=>(Below.refl _ _).alloc (Nat.le_refl _) o
   have Rk:Hid (Calls prog 48 #[.map (some bw),.string tx] (w2.alloc (.cells #[.string tx,.int .i64 (a:Int),.int .i64 (q:Int)] 55)) fun e w'=>e=.returned (.int .i64 (nw:Int))/\w'=w2.alloc (.cells #[.string tx,.int .i64 (a:Int),.int .i64 (q:Int)] 55)):=hid (by
    rw[hnw];exact yJ base bw n F tx _ (by omega) HF.out (hm2.below (hal _)) (aoN.below ((hal _).mono (Nat.le_trans Hb1.out aeP.bel.size))))
   have hl':L'.length=m:=by
    have:=hpm.length_eq;rw[Hm.out,List.length_cons]at this;omega
   have aon:Row w2 w.heap.size 55 [.string ⟨#[]⟩,.int .i64 0,.int .i64 0]:=Hra.out.keep (aeP.blk _ Hra.out.lt (by have:=agX.out;omega) (by have:=agT.out;omega));have hgr:g≠w.heap.size:=by
    have h1:=HI.out.2.2.2.2.2;have h2:=Hra.out.lt;have h3:=agT.out;rcases h1 with h1 | h1<;>omega
   have hms:ahk wr p=a+q+3+Zy (p3 L'):=by
    rw[Cb HI.out.2.2.1,Ld hpm,Lc]
   have ha3:a<=100000*1000\/True:=.inr trivial;have Hms:=hid hms;have Hle:=hid hle;have Hhp:=hid hhp;have Ye:=hid pG;have Hxi:=hid hxi;have agU:=hid aeP;have aph:=hid anX;have acF:=hid aon;have Hgr:=hid hgr;have Hnw:=hid hnw;have Hl':=hid hl';have Hhl:=hid hl1;have hwb:nw<=100000:=by
    have h1:=uy (val F) 1000 (gms tx) [] (fun g _=>HF.out g);rw[dQ]at h1;have h2:nw=kD (val F) [] (gms tx):=hnw;omega
   clear ha3 hms hle hhp pG hxi aeP anX aon hgr hnw hl' hq1 hm2 aoN hal hpm hk2 hx1 hx3 htx QA c0;by_cases hc1:nw=a
   ·have hd:((nw:Int) == (a:Int))=true:=by rw[hc1];simp
    have t0:=acF.out.cell 0;have t1:=acF.out.cell 1;have t2:=acF.out.cell 2;have f0:=acF.out.free 0;have f1:=acF.out.free 1;have f2:=acF.out.free 2;have hr3:=((((acF.out.aT 0 (.string tx)).aT 1 (.int .i64 (a:Int))).aT 2 (.int .i64 (q:Int))).alloc (.cells #[.string tx,.int .i64 (a:Int),.int .i64 (q:Int)] 55));have s0:=hr3.cell 0;have s1:=hr3.cell 1;have s2:=hr3.cell 2;simp only[List.set_cons_zero,List.set_cons_succ,List.getElem?_cons_zero,List.getElem?_cons_succ]at t0 t1 t2 s0 s1 s2;have hsz2:w.heap.size<w2.heap.size:=acF.out.lt;have dR:Hid (XU base p F C w (.returned (.tuple #[.agg #[.string tx,.int .i64 (a:Int),.int .i64 (q:Int)],.bool true])) ((((w2.setCell ⟨w.heap.size,0,none⟩ (.string tx)).setCell ⟨w.heap.size,1,none⟩ (.int .i64 (a:Int))).setCell ⟨w.heap.size,2,none⟩ (.int .i64 (q:Int))).alloc (.cells #[.string tx,.int .i64 (a:Int),.int .i64 (q:Int)] 55))):=hid
     (Ni (x:=(tx,a,q)) Hb.out Hxi.out (by have:=Hl'.out;omega) Hle.out Hhp.out (by rw[<-Hnw.out];exact hc1) (Vj Ye.out (by have:=agX.out;omega) Hgr.out _ _ _ _) aph.out (Wo _ _ _ _ (Nat.le_refl _) (Nat.le_of_lt hsz2)))
    clear hr3;subst hc1;go_wp2_with fail
    refine Rk.out.mono ?_;rintro e w3 ⟨rfl,rfl⟩;clear Rk;go_wp2;exact bodyPost_ret (v:=.tuple #[.agg #[.string tx,.int .i64 (nw:Int),.int .i64 (q:Int)],.bool true]) (by simp[results,results25,go_sem,s0,s1,s2]) rfl dR.out
   ·have hd:((nw:Int) == (a:Int))=false:=by rw[beq_eq_false_iff_ne];omega
    have hna:nw<a:=by omega
    by_cases hc0:nw=0
    ·subst hc0;have oQ:Hid (∀W,W=w2.alloc (.cells #[.string tx,.int .i64 (a:Int),.int .i64 (q:Int)] 55)->XT base p g0 C (wor F) w1 W L' g cap):=hid (fun W hW=>by
      have hal:Below w2.heap.size w2 W:=by rw[hW];exact(Below.refl _ _).alloc (Nat.le_refl _) _
      exact⟨by have:=Hl'.out;omega,Hhp.out,Ye.out.below hal,EC Hxi.out Hnw.out.symm,agU.out.trans (bB.below hal (Nat.le_trans Hb1.out agU.out.bel.size)),HI.out.2.2.2.2.2⟩)
     go_wp2_with fail
     refine Rk.out.mono ?_;rintro e w3 ⟨rfl,rfl⟩;clear Rk;go_wp2;go_roundw
     case rel=>exact⟨L',g,cap,hid (oQ.out _ rfl)⟩
     case measure=>
      rw[Cb (oQ.out _ rfl).2.2.1,Hms.out];omega
    ·have hnp:0<nw:=by omega
     have hdp:decide ((0:Int)<(nw:Int))=true:=decide_eq_true (by omega);have hal:Below w2.heap.size w2 (w2.alloc (.cells #[.string tx,.int .i64 (nw:Int),.int .i64 (q:Int)] 55)):=(Below.refl _ _).alloc (Nat.le_refl _) _;have sG:=hid (Oq base p g cap nw q tx L' (w2.alloc (.cells #[.string tx,.int .i64 (nw:Int),.int .i64 (q:Int)] 55)) (Nat.le_trans (Nat.le_trans Hb1.out agU.out.bel.size) hal.size) (by have:=Hl'.out;omega) Hhp.out (Ye.out.below hal));have Hal:=hid hal;clear hal;go_wp2_with fail
     refine Rk.out.mono ?_;rintro e w3 ⟨rfl,rfl⟩;clear Rk;go_wp2_with fail
     refine sG.out.mono ?_;rintro e w4 ⟨rfl,L2,g2,cap2,Lf,hh2,zl,hk4,anr⟩;have hnext:XT base p g0 C (wor F) w1 w4 L2 g2 cap2:=by
      have hlow:=Zw Hxi.out (show 0<wor F tx by rw[<-Hnw.out];exact hnp);rw[show wor F (tx,a,q).1=nw from Hnw.out.symm]at hlow;have hk3:bB base p g w2 w4:=(bB.below Hal.out (Nat.le_trans Hb1.out agU.out.bel.size)).trans hk4;have hlen:=Lf.length_eq;rw[List.length_cons]at hlen;have hsz1:w1.heap.size<=w2.heap.size:=agU.out.bel.size;have hsz2:=Hal.out.size;refine⟨by have:=Hl'.out;omega,hh2,zl,wW Lf hlow,agU.out.Xi HI.out.2.2.2.2.2 hk3,?_⟩;have h7:=HI.out.2.2.2.2.2;rcases anr with e | e
      ·rw[e];exact h7
      ·exact .inr (by omega)
     have oQ:=hid hnext;have apo:Hid (ahk w4 p<ahk wr p):=hid (by
      rw[Cb zl,Ld Lf,Lc,Hms.out];show nw+q+3+_<_;omega)
     clear hnext Lf hh2 zl hk4 anr sG;go_wp2;go_roundw
     case rel=>exact⟨L2,g2,cap2,oQ⟩
     case measure=>exact apo.out
def mG(w:World)(base:Nat)(v:Value)(l:List ByteArray):Prop:=w.ownsRow base 9 1 v l.length (jF l)
theorem qP(w:World)(base:Nat):mG w base (.slice none 0 0) []:=⟨rfl,.inl ⟨rfl,rfl⟩⟩
theorem mG.form{w:World}{base:Nat}{v:Value}{l:List ByteArray}(h:mG w base v l):(v=.slice none 0 0/\l=[])\/∃g cap post,v=.slice (some ⟨g,0,none⟩) l.length cap/\base<=g/\l.length<=cap/\cap<=maxLen/\post.length+l.length=cap/\Row w g 9 (jF l++post):=by
 rcases h.2 with⟨hv,h0⟩ | ⟨g,cap,cur,hv,hb,hh,h1,h2,h3,h4⟩
 ·exact .inl ⟨hv,List.eq_nil_of_length_eq_zero h0⟩
 ·have hcl:cur.toList.length=cur.size:=Array.length_toList;refine .inr ⟨g,cap,cur.toList.drop (l.length*1),hv,hb,h1,h2,?_,?_⟩
  ·rw[List.length_drop];omega
  ·unfold Row;rw[<-h4,List.take_append_drop,Array.toArray_toList];exact hh
theorem lD{w:World}{base g cap:Nat}{l:List ByteArray}{post:List Value}(hb:base<=g)(hc:cap<=maxLen)(hp:post.length+l.length=cap)(hr:Row w g 9 (jF l++post)):mG w base (.slice (some ⟨g,0,none⟩) l.length cap) l:=by
 have hl:=cu l;exact⟨by rw[hl];omega,.inr ⟨g,cap,(jF l++post).toArray,rfl,hb,hr,by omega,hc,by rw[List.size_toArray,List.length_append,hl];omega,by rw[List.toList_toArray,Nat.mul_one,List.take_left' hl]⟩⟩
theorem mG.reads{w:World}{base:Nat}{v:Value}{l:List ByteArray}(h:mG w base v l):∃A c,v=.slice A l.length c/\l.length<=c/\c<=maxLen/\Reads w A (jF l):=by
 rcases h.form with⟨rfl,rfl⟩ | ⟨g,cap,post,rfl,_,h1,h2,_,hr⟩
 ·exact⟨none,0,rfl,Nat.le_refl _,Nat.zero_le _,fun h=>absurd rfl h⟩
 ·refine⟨_,cap,rfl,h1,h2,fun _=>⟨g,0,rfl,fun j hj=>?_⟩⟩;rw[Nat.zero_add,hr.cell,List.getElem?_append_left hj]
theorem mG.keep{w w':World}{base:Nat}{v:Value}{l:List ByteArray}(h:mG w base v l)(hk:∀g cs,base<=g->Row w g 9 cs->Row w' g 9 cs):mG w' base v l:=by
 rcases h.form with⟨rfl,rfl⟩ | ⟨g,cap,post,rfl,h0,h1,h2,h3,hr⟩
 ·exact qP _ _
 ·exact lD h0 h2 h3 (hk g _ h0 hr)
theorem mG.ZK{w w':World}{base b2:Nat}{v:Value}{l:List ByteArray}(h:mG w base v l)(hk:jR b2 w w'):mG w' base v l:=h.keep (fun _ _ _ hr=>hk.row (by decide) (by decide) hr)
theorem mG.below{w w':World}{base:Nat}{v:Value}{l:List ByteArray}(h:mG w base v l)(hb:Below w.heap.size w w'):mG w' base v l:=h.keep (fun _ _ _ hr=>aL hr hb)
theorem mG.low{w:World}{base base':Nat}{v:Value}{l:List ByteArray}(h:mG w base v l)(hb:base'<=base):mG w base' v l:=by
 rcases h.form with⟨rfl,rfl⟩ | ⟨g,cap,post,rfl,h0,h1,h2,h3,hr⟩
 ·exact qP _ _
 ·exact lD (Nat.le_trans hb h0) h2 h3 hr
theorem EH:(prog.info? 9).map (fun i=>(i.zero,i.size,i.bytes))=some (some (.string ⟨#[]⟩),1,16):=by kernel_rfl
theorem FD(g off c:Nat)(l:List ByteArray)(w:World)(h0:0<l.length)(hn:l.length<=1000000)(hrd:Reads w (some ⟨g,off,none⟩) (jF l)) :
  Calls prog 47 #[.slice (some ⟨g,off,none⟩) l.length c] w fun e w'=>∃u,e=.returned u/\mG w' w.heap.size u l/\Below w.heap.size w w':=by
 obtain⟨i0,hi,hz0,hz1,hz2⟩:=info_parts EH;have hg:g<w.heap.size:=by
  obtain⟨g',off',e,hc⟩:=iF hrd h0;injection e with e
  injection e with e1 e2
  subst e1 e2;exact World.block_lt_of_cell? w _ (hc 0 h0)
 have hown0:(w.alloc (.cells #[] 9)).ownsRow w.heap.size 9 1 (.slice (some ⟨w.heap.size,0,none⟩) 0 0) 0 []:=World.ownsRow_lit w #[] 0 (Nat.le_refl _) (by unfold maxLen;omega) rfl;have hnews:∀j u,(jF l)[j]?=some u->(w.alloc (.cells #[] 9)).cell? ((⟨g,off,none⟩:Addr).add j)=some u:=by
  intro j u hj;have h1:=Aq (aC hrd ((Below.refl _ _).alloc (Nat.le_refl _) (.cells #[] 9))) j u hj;exact h1
 have hnil:∀W,(binOp .eql 22 (.slice (some ⟨g,off,none⟩) l.length c) (.slice none 0 0)).run prog W=.ok (.bool false) W:=fun W=>Lib.run_eql_slice_nil W _ _ _ _ _ _ _ underlying22
 obtain⟨n,hnl⟩:∃n,n=l.length:=⟨_,rfl⟩;rw[<-hnl]at hnil hn h0 ⊢;have dx:=hid hnews;have vY:=hid hown0;have Hl:=hid hnl;clear hnews hown0 hrd hnl;go_enter func47,ntmps47
 go_wp2_with (at_builtin;refine wpList_append_own _ rfl _ _ 22 rfl w.heap.size 9 i0 (.string ⟨#[]⟩) 1 16 underlying22 hi hz0 hz1 hz2 rfl (by decide) _ _ _ rfl vY.out ⟨g,off,none⟩ n c (jF l) rfl ?c0 dx.out ?c2 ?c3 ?c4 ?c5 ?_)
 case c0=>rw[cu,Hl.out,Nat.mul_one]
 case c2=>intro u hu;simp[jF]at hu;obtain⟨a,_,rfl⟩:=hu;rfl
 case c3=>unfold maxLen;omega
 case c4=>omega
 case c5=>simp
 intro v' w2 hown2 aiS _;have hb2:Below w.heap.size w w2:=((Below.refl w.heap.size w).alloc (Nat.le_refl _) _).grown aiS (by simp) (fun k e=>by
  have:k=w.heap.size:=by simpa [Value.ownBlock]using e.symm
  rw[this];exact Nat.le_refl _)
 have qg:Hid (mG w2 w.heap.size v' l):=hid (by unfold mG;rw[<-Hl.out];simpa using hown2);have Hb:=hid hb2;clear hown2 hb2 aiS vY dx;go_wp2;go_ret;exact⟨_,rfl,qg.out,Hb.out⟩
theorem JK(c:Nat)(w:World) :
  Calls prog 47 #[.slice none 0 c] w fun e w'=>e=.returned (.slice none 0 0)/\w=w':=by
 have hnil:∀W,(binOp .eql 22 (.slice none 0 c) (.slice none 0 0)).run prog W=.ok (.bool true) W:=fun W=>Lib.run_eql_slice_nil W _ _ _ _ _ _ _ underlying22
 go_enter func47,ntmps47
 go_wp2;go_ret;exact⟨rfl,rfl⟩
theorem FE(a:Addr)(c:Nat)(w:World) :
  Calls prog 47 #[.slice (some a) 0 c] w fun e w'=>∃u,e=.returned u/\mG w' w.heap.size u []/\Below w.heap.size w w':=by
 have hnil:∀W,(binOp .eql 22 (.slice (some a) 0 c) (.slice none 0 0)).run prog W=.ok (.bool false) W:=fun W=>Lib.run_eql_slice_nil W _ _ _ _ _ _ _ underlying22
 go_enter func47,ntmps47
 go_wp2;go_ret;exact⟨_,rfl,lD (post:=[]) (Nat.le_refl _) (Nat.zero_le _) rfl (Row.new w 9 []),(Below.refl _ _).alloc (Nat.le_refl _) _⟩
theorem JJ(A:Option Addr)(c:Nat)(l:List ByteArray)(w:World)(hn:l.length<=1000000)(hrd:Reads w A (jF l)) :
  Calls prog 47 #[.slice A l.length c] w fun e w'=>∃u,e=.returned u/\mG w' w.heap.size u l/\Below w.heap.size w w':=by
 rcases Nat.eq_zero_or_pos l.length with h0 | h0
 ·obtain rfl:=List.eq_nil_of_length_eq_zero h0;cases A with
  | none=>exact(JK c w).mono (fun e w' ⟨he,hw⟩=>⟨_,he,qP _ _,by rw[<-hw];exact Below.refl _ _⟩)
  | some a=>exact FE a c w
 ·obtain⟨g,off,rfl,_⟩:=iF hrd h0;exact FD g off c l w h0 hn hrd
theorem mG.block{w:World}{base:Nat}{v:Value}{l:List ByteArray}(h:mG w base v l){b:Nat}(hb:v.ownBlock=some b):base<=b/\∃cs,Row w b 9 cs:=by
 rcases h.form with⟨rfl,rfl⟩ | ⟨g,cap,post,rfl,h0,_,_,_,hr⟩
 ·cases hb
 ·have:g=b:=by simpa [Value.ownBlock]using hb
  subst this;exact⟨h0,_,hr⟩
theorem uW(A:Option Addr)(c:Nat)(R:List ByteArray)(w:World)(hR:R.length<=9223372036854775807)(hc:R.length<=c)(hs:∀s∈R,s.size<=140737488351232)(hrd:Reads w A (jF R)) :
  Calls prog 22 #[.slice A R.length c] w fun e w'=>∃u,e=.returned u/\mG w' w.heap.size u (brt R)/\Below w.heap.size w w':=by
 obtain⟨q,hq⟩:∃q,q=min 64 R.length:=⟨_,rfl⟩;have hql:(R.take 64).length=q:=by rw[List.length_take,hq]
 have arp:q<=64:=by omega
 have hqR:q<=R.length:=by omega
 have hmin:min (R.length:Int) 64=(q:Int):=by omega
 have hcut:=fun W=>agk A R.length c q W hqR hc
 have Hcl:Hid (∀W,Below w.heap.size w W->Calls prog 47 #[.slice A q c] W fun e w'=>∃u,e=.returned u/\mG w' W.heap.size u (R.take 64)/\Below W.heap.size W w'):=hid (fun W hW=>by
  have h1:=JJ A c (R.take 64) W (by rw[hql];omega) (JR (aC hrd hW));rw[hql]at h1;exact h1)
 have Hs:Hid (∀s∈R.take 64,s.size<=140737488351232):=hid (fun s h=>hs s (List.mem_of_mem_take h));have Hql:=hid hql;clear hs hrd hql hq;go_enter func22,ntmps22
 go_wp2_with fail
 refine(Hcl.out _ (Below.refl _ _)).mono ?_;rintro e w1 ⟨u,rfl,hown,hb1⟩;clear hcut hmin;rcases hown.form with⟨rfl,h0⟩ | ⟨g,cap,post,rfl,hg,hn1,hc1,hp1,hr1⟩
 ·have hq0:q=0:=by rw[<-Hql.out,h0];rfl
  subst hq0;have dR:Hid (∃u,Ending.returned (Value.slice none 0 0)=.returned u/\mG w1 w.heap.size u (brt R)/\Below w.heap.size w w1):=hid ⟨_,rfl,by unfold brt;rw[h0];exact qP _ _,hb1⟩;clear hown h0 hb1;go_wp2;go_loopw [14] (fun iv wr=>iv=.int .i64 0/\wr=w1) (fun _ _=>0)
  case atStart=>exact⟨rfl,rfl⟩
  case round=>
   obtain⟨rfl,rfl⟩:=hrel;go_wp2;go_ret;exact dR.out
 ·rw[Hql.out]at hn1 hp1;rw[Hql.out];have Hr0:Hid (Row w1 g 9 (jF (((R.take 64).take 0).map NH++(R.take 64).drop 0)++post)):=hid (by simpa using hr1);have Hb1:=hid hb1;have Hg:=hid hg;clear hown hr1 hb1 hg;go_wp2;go_loopw [14] (fun iv wr=>∃i:Nat,iv=.int .i64 (i:Int)/\i<=q/\Hid (Row wr g 9 (jF (((R.take 64).take i).map NH++(R.take 64).drop i)++post))/\Hid (Below w.heap.size w wr)) (fun iv _=>q-(intOf iv).toNat)
  case atStart=>exact⟨0,rfl,Nat.zero_le _,Hr0,Hb1⟩
  case round=>
   obtain⟨i,rfl,hi,Hr,Hb⟩:=hrel;clear Hr0;obtain⟨l,hl⟩:∃l,l=R.take 64:=⟨_,rfl⟩;have hlq:l.length=q:=by rw[hl];exact Hql.out
   rw[<-hl]at Hr;by_cases hiq:i<q
   ·obtain⟨s,hsd⟩:∃s,s=l[i]:=⟨_,rfl⟩;have hsz:s.size<=140737488351232:=by rw[hsd];exact Hs.out _ (by rw[<-hl];exact List.getElem_mem _)
    have hlm:((l.take i).map NH).length=i:=by rw[List.length_map,List.length_take];omega
    have hcell:wr.cell? ⟨g,i,none⟩=some (.string s):=by
     rw[Hr.out.cell,List.getElem?_append_left (by rw[cu,List.length_append,hlm,List.length_drop];omega),kP _ _ (by rw[List.length_append,hlm,List.length_drop];omega),List.getElem_append_right (by omega)];simp[hsd,Nat.min_eq_left (show i<=l.length by omega)]
    have hfr:=Hr.out.free i;obtain⟨m,hm⟩:∃m,m=min s.size 512:=⟨_,rfl⟩;have hmm:min (s.size:Int) 512=(m:Int):=by omega
    have hct:∀W,(Instr.slice 9 (.string s) none (some (.int .i64 (m:Int))) none).run prog W=.ok (.string (NH s)) W:=fun W=>by
     rw[run_slice_string_to_if W 9 s .i64 (m:Int) underlying9,if_pos ⟨by omega,by omega⟩,Int.toNat_natCast,hm,YM]
    have oQ:Hid (Row (wr.setCell ⟨g,i,none⟩ (.string (NH s))) g 9 (jF ((l.take (i+1)).map NH++l.drop (i+1))++post)):=hid (by
     have h1:=Hr.out.aT i (.string (NH s));rw[List.set_append_left _ _ (by rw[cu,List.length_append,hlm,List.length_drop];omega),abB,List.set_append_right _ _ (by omega),hlm,Nat.sub_self,List.drop_eq_getElem_cons (by omega),List.set_cons_zero]at h1;rw[List.take_succ_eq_append_getElem (by omega),List.map_append,List.map_singleton,<-hsd,List.append_assoc,List.singleton_append];exact h1)
    have Hbn:Hid (Below w.heap.size w (wr.setCell ⟨g,i,none⟩ (.string (NH s)))):=hid (Hb.out.trans (below_grown (aB (aj wr (some g)) i _) Hg.out Hb.out.size));have HL:=hid hl;clear hlm hm hsd hl hlq;go_wp2;go_roundw
    case rel=>exact⟨i+1,by go_num,by omega,by rw[<-HL.out];exact oQ,Hbn⟩
    case measure=>simp[intOf];omega
   ·have anU:i=q:=by omega
    have dR:Hid (mG wr w.heap.size (.slice (some ⟨g,0,none⟩) q cap) (brt R)):=hid (by
     have h1:=Hr.out;rw[anU,<-hlq,List.take_length,List.drop_length,List.append_nil,hl]at h1;have h2:=lD (base:=w.heap.size) Hg.out hc1 (by rw[List.length_map,Hql.out];exact hp1) h1;rw[List.length_map,Hql.out]at h2;exact h2)
    clear hlq anU hl;go_wp2;go_ret;exact⟨_,rfl,dR.out,Hb.out⟩
theorem OY(w:World):fu ((w.alloc (.cells #[] 55)).alloc (.cells #[.slice (some ⟨w.heap.size,0,none⟩) 0 0] 94)) w.heap.size (w.heap.size+1) w.heap.size 0 []:=by
 have h1:=Row.new (w.alloc (.cells #[] 55)) 94 [.slice (some ⟨w.heap.size,0,none⟩) 0 0];rw[show(w.alloc (.cells #[] 55)).heap.size=w.heap.size+1 by simp]at h1;exact⟨by omega,Nat.le_refl _,Nat.le_refl _,Nat.zero_le _,h1,[],rfl,(Row.new w 55 []).alloc _⟩
theorem YJ(A:List ByteArray)(s:ByteArray):cnd (A++[s])=cnd A++pcs s:=by simp[cnd]
theorem Km(A:Option Addr)(c bw n:Nat)(F:ByteArray->Option Nat)(R:List ByteArray)(w:World)(hR:R.length<=64)(hs:∀s∈R,s.size<=512)(hr:Reads w A (jF R))(hF:∀g,val F g<=1000)(hmap:jy w bw n F)(hmax:zx w.heap.size w) :
  Calls prog 24 #[.slice A R.length c,.map (some bw)] w fun e w'=>e=.returned (.pointer (some ⟨w.heap.size+1,0,none⟩))/\(∃(L:List Pce) (g cap:Nat),iw L L.length/\fu w' w.heap.size (w.heap.size+1) g cap L/\ql (cnd R) (wor F) L/\L.length<=100000)/\Below w.heap.size w w':=by
 obtain⟨i0,hi,hz0,hz1,hz2⟩:=info_parts zZ;have Hr:=hid hr;have Hs:=hid hs;have HF:=hid hF;have XJ:=hid hmap;have XK:=hid hmax;have HI0:Hid (ql (cnd (R.take 0)) (wor F) []):=hid (Oh _);have Hp0:=hid (OY w);have Hb0:Hid (Below w.heap.size w ((w.alloc (.cells #[] 55)).alloc (.cells #[.slice (some ⟨w.heap.size,0,none⟩) 0 0] 94))):=hid (((Below.refl _ _).alloc (Nat.le_refl _) _).alloc (by simp) _);have Hcl:Hid (∀i,i<=R.length->(cnd (R.take i)).length<=32768):=hid (fun i hi=>by
  have h1:=zJ 512 (R.take i) (fun x hx=>hs x (List.mem_of_mem_take hx));rw[List.length_take]at h1;have h2:min i R.length*512<=64*512:=Nat.mul_le_mul_right _ (by omega);omega)
 clear hr hs hF hmap hmax;go_enter func24,ntmps24
 go_wp2;go_loopw [6,17] (fun ov iv wr=>∃(i:Nat) (L:List Pce) (g cap:Nat),iv=.int .i64 (i:Int)/\i<=R.length/\ov=.int .i64 (((cnd (R.take i)).length:Nat):Int)/\Hid (L.length<=(cnd (R.take i)).length)/\Hid (ql (cnd (R.take i)) (wor F) L)/\Hid (fu wr w.heap.size (w.heap.size+1) g cap L)/\Hid (Below w.heap.size w wr)) (fun _ iv _=>R.length-(intOf iv).toNat)
 case atStart=>exact⟨0,[],w.heap.size,0,rfl,Nat.zero_le _,rfl,hid (Nat.zero_le _),HI0,Hp0,Hb0⟩
 case round=>
  obtain⟨i,L,g,cap,rfl,hiR,rfl,HLl,HI,Hp,Hb⟩:=hrel;clear HI0 Hp0 Hb0;by_cases hil:i<R.length
  ·have hrd:=aC Hr.out Hb.out;obtain⟨gA,oA,eA,hcA⟩:=iF hrd (by omega);subst eA;have hcell:=hcA i hil;obtain⟨s,hsd⟩:∃s,s=R[i]:=⟨_,rfl⟩;rw[<-hsd]at hcell;have hss:s.size<=512:=by rw[hsd];exact Hs.out _ (List.getElem_mem hil)
   have Htk:Hid (cnd (R.take (i+1))=cnd (R.take i)++pcs s):=hid (by rw[List.take_succ_eq_append_getElem hil,<-hsd,YJ]);have hz:=Vv s;obtain⟨z,hzs⟩:∃z,z=psz s:=⟨_,rfl⟩;have hmm:min (max (s.size:Int) 6) 16=(z:Int):=by rw[hzs];unfold psz;omega
   rw[<-hzs]at hz;obtain⟨N,hN⟩:∃N,N=(pcs s).length:=⟨_,rfl⟩;have hNs:(s.size:Int)-(z:Int)+1<=(N:Int)/\(N:Int)<=s.size/\(0<N->(s.size:Int)-(z:Int)+1=(N:Int)):=by
    rw[hN,tK,<-hzs];omega
   obtain⟨hN1,hN2,hN3⟩:=hNs;obtain⟨D,hD⟩:∃D,D=cnd (R.take i):=⟨_,rfl⟩;rw[<-hD]at HLl HI Htk ⊢;have hDl:D.length+N<=32768:=by
    have h1:=Hcl.out (i+1) (by omega);rw[Htk.out,List.length_append]at h1;omega
   have Hlen:=hid hN;have Hzs:=hid hzs;have HD:=hid hD;have Hi0:Hid (D++(pcs s).take 0=D):=hid (by simp);clear hrd hcA hsd hN hzs hD;go_wp2;clear hcell hmm;rename World=>wo
   go_loopw [6,30] (fun ov kv wr=>∃(k:Nat) (L:List Pce) (g cap:Nat),kv=.int .i64 (k:Int)/\k<=N/\ov=.int .i64 ((D.length+k:Nat):Int)/\Hid (L.length<=D.length+k)/\Hid (ql (D++(pcs s).take k) (wor F) L)/\Hid (fu wr w.heap.size (w.heap.size+1) g cap L)/\Hid (Below w.heap.size w wr)) (fun _ kv _=>N-(intOf kv).toNat)
   case atStart=>exact⟨0,L,g,cap,rfl,Nat.zero_le _,rfl,HLl,by rw[Hi0.out];exact HI,Hp,Hb⟩
   case round=>
    obtain⟨k,L,g,cap,rfl,hk,rfl,HLl,HI,Hp,Hb⟩:=hrel;by_cases hkN:k<N
    ·have hlt:(k:Int)<(s.size:Int)-(z:Int)+1:=by rw[hN3 (by omega)];omega
     have hkz:k+z<=s.size:=by omega
     have hkl:k<(pcs s).length:=by rw[<-Hlen.out];exact hkN
     obtain⟨t,ht⟩:∃t,t=s.extract k (k+z):=⟨_,rfl⟩;have hcut:∀W,(Instr.slice 9 (.string s) (some (.int .i64 (k:Int))) (some (.int .i64 ((k:Int)+(z:Int)))) none).run prog W=.ok (.string t) W:=fun W=>by
      have h1:=Mv s k (k+z) (by omega) hkz W;rw[show((k+z:Nat):Int)=(k:Int)+(z:Int) by omega,<-ht]at h1;exact h1
     have hts:t.size<=16:=by rw[ht,ByteArray.size_extract];omega
     have Hts:Hid ((pcs s).take (k+1)=(pcs s).take k++[t]):=hid (by rw[List.take_succ_eq_append_getElem hkl,Vi,ht,Hzs.out]);have Hdl:Hid ((D++(pcs s).take k).length=D.length+k):=hid (by rw[List.length_append,List.length_take];omega);obtain⟨v,hv⟩:∃v,v=wor F t:=⟨_,rfl⟩;have hvb:v<=100000:=by
      have h1:=uy (val F) 1000 (gms t) [] (fun g _=>HF.out g);rw[dQ]at h1;have h2:v=kD (val F) [] (gms t):=hv;omega
     have Rk:Hid (Calls prog 48 #[.map (some bw),.string t] wr fun e w'=>e=.returned (.int .i64 (v:Int))/\w'=wr):=hid (by
      rw[hv];exact yJ w.heap.size bw n F t wr (by omega) HF.out (XJ.out.below Hb.out) (XK.out.below Hb.out))
     have Hv:=hid hv;obtain⟨o,ho⟩:∃o,o=D.length+k:=⟨_,rfl⟩;have hob:o<=32768:=by omega
     have Ho1:Hid ((o:Int)+1=((D.length+(k+1):Nat):Int)):=hid (by omega);rw[<-ho]at HLl Hdl ⊢;have hLo:=HLl.out;clear ht hkl hv ho;by_cases hv0:v=0
     ·have hv1:decide ((0:Int)<(v:Int))=false:=decide_eq_false (by omega);have HI2:Hid (ql (D++(pcs s).take (k+1)) (wor F) L):=hid (by
       rw[Hts.out,<-List.append_assoc];exact Tz HI.out t (by rw[<-Hv.out];exact hv0))
      have HL2:Hid (L.length<=D.length+(k+1)):=hid (by have:=Ho1.out;omega);clear Hv;subst hv0;go_wp2_with fail
      refine Rk.out.mono ?_;rintro e w2 ⟨rfl,rfl⟩;clear Rk;go_wp2;go_roundw
      case rel=>exact⟨k+1,L,g,cap,by go_num,by omega,by rw[<-Ho1.out],HL2,HI2,Hp,Hb⟩
      case measure=>simp[intOf];omega
     ·have hv1:decide ((0:Int)<(v:Int))=true:=decide_eq_true (by omega);have HI2:Hid (ql (D++(pcs s).take (k+1)) (wor F) (L++[(t,v,o)])):=hid (by
       have h1:=TA HI.out t (by rw[<-Hv.out];omega);rw[<-Hv.out,Hdl.out]at h1;rw[Hts.out,<-List.append_assoc];exact h1)
      have HL2:Hid ((L++[(t,v,o)]).length<=D.length+(k+1)):=hid (by have:=Ho1.out;rw[List.length_append,List.length_singleton];omega);have c0:=Hp.out.cell;obtain⟨w1,hw1⟩:∃w1,w1=wr.alloc (.cells #[.string t,.int .i64 (v:Int),.int .i64 (o:Int)] 55):=⟨_,rfl⟩;have hbl:Below wr.heap.size wr w1:=by rw[hw1];exact(Below.refl _ _).alloc (Nat.le_refl _) _
      have hp1:=Hp.out.below hbl;have hcp:∀W,w1.grownBy W (some g)->W.cell? ⟨w.heap.size+1,0,none⟩=some (.slice (some ⟨g,0,none⟩) L.length cap)/\W.frozen? ⟨w.heap.size+1,0,none⟩=false:=fun W hW=>by
       rw[hW.cell_far _ (by exact hp1.var.lt) (fun e=>hp1.ne (by injection e)),hp1.cell,hW.frozen_far _ (by exact hp1.var.lt) (fun e=>hp1.ne (by injection e)),hp1.var.free];exact⟨rfl,rfl⟩
      have Hcp:=hid hcp;have Hbl:=hid hbl;have Hp1:=hid hp1;have Hw1:=hid hw1;have Hbs:Hid (w.heap.size<=wr.heap.size):=hid Hb.out.size;have qg:Hid (wr.ownsRow w.heap.size 55 3 (.slice (some ⟨g,0,none⟩) L.length cap) L.length (p3 L)):=hid Hp.out.own;clear hw1 hbl hp1 hcp Hv;go_wp2_with fail
      refine Rk.out.mono ?_;rintro e w2 ⟨rfl,rfl⟩;clear Rk;go_wp2_with (at_builtin;refine wpList_append_lies _ rfl _ _ 94 rfl w.heap.size 55 i0 (.agg #[.string ⟨#[]⟩,.int .i64 0,.int .i64 0]) 3 32 underlying94 hi hz0 hz1 hz2 rfl (by decide) _ _ _ rfl (qg.out.alloc _) ⟨w2.heap.size,0,none⟩ 1 1 [.string t,.int .i64 (v:Int),.int .i64 (o:Int)] rfl rfl ?d1 ?d2 (by decide) ?d3 ?d4 ?d5 _ rfl ?_)
      case d1=>
       intro j u hj;match j,hj with
       | 0,hj=>simp at hj;subst hj;simp[Addr.add]
       | 1,hj=>simp at hj;subst hj;simp[Addr.add]
       | 2,hj=>simp at hj;subst hj;simp[Addr.add]
      case d2=>intro u hu;simp at hu;rcases hu with rfl | rfl | rfl<;>rfl
      case d3=>unfold maxLen;omega
      case d4=>omega
      case d5=>simpa using Nat.le_trans Hbs.out (Nat.le_succ _)
      intro g7 akl w7 bM fO ahg akp;rw[<-Hw1.out]at fO;have fO:w1.grownBy w7 (some g):=fO;obtain⟨c7,f7⟩:=Hcp.out w7 fO;have dR:=hid (Fh Hp1.out Hbl.out Hbs.out bM fO);clear bM fO ahg akp Hcp qg;go_wp2;go_roundw
      case rel=>exact⟨k+1,L++[(t,v,o)],g7,akl,by go_num,by omega,by rw[<-Ho1.out],HL2,HI2,hid dR.out.1,hid (Hb.out.trans dR.out.2.bel)⟩
      case measure=>simp[intOf];omega
    ·have hge:¬(k:Int)<(s.size:Int)-(z:Int)+1:=by
      by_cases h0:0<N
      ·rw[hN3 h0];omega
      ·omega
     have ahi:k=N:=by omega
     have iy:Hid (D++(pcs s).take k=cnd (R.take (i+1))):=hid (by rw[ahi,Hlen.out,List.take_length,Htk.out]);rw[iy.out]at HI;have Hln:Hid ((cnd (R.take (i+1))).length=D.length+k):=hid (by rw[Htk.out,List.length_append,<-Hlen.out,ahi]);have HL2:Hid (L.length<=(cnd (R.take (i+1))).length):=hid (by rw[Hln.out];exact HLl.out);clear hN3 ahi iy;go_wp2;go_roundw
     case rel=>exact⟨i+1,L,g,cap,by go_num,by omega,by rw[Hln.out],HL2,HI,Hp,Hb⟩
     case measure=>simp[intOf];omega
  ·have anT:i=R.length:=by omega
   have hLb:L.length<=100000:=Nat.le_trans HLl.out (Nat.le_trans (Hcl.out i hiR) (by omega));have HI2:Hid (ql (cnd R) (wor F) L):=hid (by have h1:=HI.out;rw[anT,List.take_length]at h1;exact h1);have amK:=hid (Oo w.heap.size (w.heap.size+1) g cap L wr Hb.out.size hLb Hp.out);clear anT;go_wp2_with fail
   refine amK.out.mono ?_;rintro e w3 ⟨rfl,L2,hpm,hh2,pG,hk2⟩;have dR:Hid (∃(L:List Pce) (g cap:Nat),iw L L.length/\fu w3 w.heap.size (w.heap.size+1) g cap L/\ql (cnd R) (wor F) L/\L.length<=100000):=hid ⟨L2,g,cap,hh2,pG,wW hpm HI2.out,by rw[hpm.length_eq];exact hLb⟩;have Hbe:=hid (Hb.out.trans hk2.bel);clear hpm hh2 pG hk2 amK;go_wp2;go_ret;exact⟨rfl,dR.out,Hbe.out⟩
namespace Bm
def wT(B T:List ByteArray):ByteArray->Option Nat:=fun g=>if tkn T g then none else wg0 B g
theorem Gd(B:List ByteArray):wT B []=wg0 B:=by funext g;simp[wT,tkn]
theorem agN(B T:List ByteArray)(t:ByteArray):GZ (wT B T) (gms t)=wT B (T++[t]):=by
 funext g
 unfold GZ wT;rw[MQ];by_cases h:g∈gms t<;>simp[h]
theorem Xw(B T:List ByteArray)(g:ByteArray):val (wT B T) g=fvl B T g:=by
 unfold fvl;by_cases h:tkn T g=true
 ·rw[if_pos h];unfold val wT;rw[if_pos h];rfl
 ·rw[if_neg h,<-agM];unfold val wT;rw[if_neg h]
end Bm
theorem MU(B T:List ByteArray):wor (wT B T)=jr B T:=by
 funext t
 exact Qv _ _ _ _ (fun g _=>Xw B T g)
theorem fu.KW{w w':World}{base p g cap:Nat}{L:List Pce}{row:Option Nat}(h:fu w base p g cap L)(hg:w.grownBy w' row)(hr:∀b,row=some b->b≠p/\b≠g):fu w' base p g cap L:=by
 obtain⟨_,_,hrow⟩:=h.row;exact h.Uc (hg.block p h.var.lt (fun e=>(hr p e.symm).1 rfl)) (hg.block g hrow.lt (fun e=>(hr g e.symm).2 rfl))
theorem XM.KW{w w':World}{base p:Nat}{L:List Pce}{row:Option Nat}(h:XM w base p L)(hg:w.grownBy w' row)(hr:∀b t cs,row=some b->(t=94\/t=55)->¬Row w b t cs):XM w' base p L:=by
 obtain⟨h1,g,cap,h2⟩:=h;obtain⟨post,_,hrow⟩:=h2.row;exact⟨h1,g,cap,h2.KW hg (fun b e=>⟨fun e2=>by subst e2;exact hr b _ _ e (.inl rfl) h2.var,fun e2=>by subst e2;exact hr b _ _ e (.inr rfl) hrow⟩)⟩
theorem XM.below{w w':World}{base p:Nat}{L:List Pce}(h:XM w base p L)(hb:Below w.heap.size w w'):XM w' base p L:=by
 obtain⟨h1,g,cap,h2⟩:=h;exact⟨h1,g,cap,h2.below hb⟩
theorem row_one{w:World}{b:Nat}{t u:TypeId}{cs ds:List Value}(h:Row w b t cs)(h2:Row w b u ds):t=u:=by
 unfold Row at h h2;rw[h]at h2;injection h2 with h2
 injection h2
theorem jy.ZK{w w':World}{b n base:Nat}{F:ByteArray->Option Nat}(h:jy w b n F)(hk:jR base w w'):jy w' b n F:=h.keep (hk.blk b h.lt (fun t cs _=>h.aao t cs))
def PcI(B3 p bw:Nat)(B:List ByteArray)(fin:List ByteArray)(w wr:World)(T:List ByteArray)(left:Nat)(v:Value)(L:List Pce):Prop:=
 mG wr B3 v T/\jy wr bw 100000 (wT B T)/\XM wr B3 p L/\ql (cnd B) (wor (wT B T)) L/\L.length<=100000/\(∃f,left<f/\pcN B f left T=fin)/\Below w.heap.size w wr/\B3<=wr.heap.size
theorem adl{B3 p bw left:Nat}{B fin T:List ByteArray}{w wr:World}{v:Value}{L:List Pce}(h:PcI B3 p bw B fin w wr T left v L)(he:(bst B T).2=0\/left<(bst B T).1.size):fin=T:=by
 obtain⟨_,_,_,_,_,⟨f,_,h1⟩,_⟩:=h;rw[<-h1];exact afR B f left T he
theorem yI(B3 p bw:Nat)(B:List ByteArray)(fin:List ByteArray)(w wr:World)(T:List ByteArray)(left:Nat)(v:Value)(L:List Pce)(h:PcI B3 p bw B fin w wr T left v L)(hw:w.heap.size<=B3)(hT:fin=T)(w2:World)(hk:jR B3 wr w2)(o:Obj):mG (w2.alloc o) w.heap.size v fin/\Below w.heap.size w (w2.alloc o):=by
 obtain⟨h1,_,_,_,_,_,h2,h3⟩:=h;subst hT;have ha:Below w2.heap.size w2 (w2.alloc o):=(Below.refl _ _).alloc (Nat.le_refl _) o;exact⟨((h1.ZK hk).below ha).low hw,(h2.trans (hk.bel.mono hw)).trans (ha.mono (Nat.le_trans (Nat.le_trans hw h3) hk.bel.size))⟩
theorem yH(A:Option Addr)(c:Nat)(R:List ByteArray)(sz:Int)(w:World)(hR:R.length<=9223372036854775807)(hc:R.length<=c)(hs:∀s∈R,s.size<=140737488351232)(hrd:Reads w A (jF R))(hmax:zx w.heap.size w) :
  Calls prog 10 #[.slice A R.length c,.int .i64 sz] w fun e w'=>∃v,e=.returned v/\mG w' w.heap.size v (chosen (brt R) (min (max sz 0) 256).toNat)/\Below w.heap.size w w':=by
 obtain⟨i0,hi,hz0,hz1,hz2⟩:=info_parts EH;obtain⟨q,hq⟩:∃q,q=(min (max sz 0) 256).toNat:=⟨_,rfl⟩;have hmm:min (max sz 0) 256=(q:Int):=by omega
 have alP:q<=256:=by omega
 rw[<-hq];obtain⟨fin,hfin⟩:∃fin,fin=chosen (brt R) q:=⟨_,rfl⟩;rw[<-hfin];have iy:Hid (pcN (brt R) (q+1) q []=fin):=hid hfin.symm;obtain⟨B,hB⟩:∃B,B=brt R:=⟨_,rfl⟩;have hBl:B.length<=64:=by rw[hB,zF];omega
 have hBs:∀s∈B,s.size<=512:=fun s h=>KH R s (by rw[<-hB];exact h)
 have adF:=hid (uW A c R w hR hc hs hrd);rw[<-hB]at adF iy;have HBs:=hid hBs;have HBl:=hid hBl;have XK:=hid hmax;have HF:Hid (∀T g,val (wT B T) g<=1000):=hid (fun T g=>by
  rw[Xw];have:=acO B T g;omega)
 have HC:Hid (∀t∈cnd B,t.size<=16):=hid (fun t h=>(BI B t h).2);clear hR hc hs hrd hmax hq hfin hB hBs hBl;go_enter func10,ntmps10
 go_wp2_with fail
 refine adF.out.mono ?_;rintro e w1 ⟨u,rfl,hu,hb1⟩;obtain⟨A1,c1,rfl,hc1,apW,hr1⟩:=hu.reads;have Hwg:=hid (Bc A1 c1 B w1 HBl.out HBs.out hr1);have Hu:=hid hu;have Hb1:=hid hb1;have Hr1:=hid hr1;clear hu hb1 hr1 adF;go_wp2_with fail
 refine Hwg.out.mono ?_;rintro e w2 ⟨rfl,hm2,hb2⟩;obtain⟨bw,hbw⟩:∃bw,bw=w1.heap.size:=⟨_,rfl⟩;have Hbw:Hid (w.heap.size<=bw):=hid (by rw[hbw];exact Hb1.out.size);rw[<-hbw]at hm2 ⊢;have Hb2:Hid (Below w.heap.size w w2):=hid (Hb1.out.trans (hb2.mono Hb1.out.size));have Hm2:=hid hm2;have adM:Hid (zx w2.heap.size w2):=hid ((XK.out.below Hb2.out).mono Hb2.out.size);have Hwo:=hid (Km A1 c1 bw 100000 (wg0 B) B w2 HBl.out HBs.out (aC Hr1.out hb2) (fun g=>by rw[<-Gd B];exact HF.out [] g) hm2 adM.out);clear hm2 hb2 Hwg hbw;go_wp2_with fail
 refine Hwo.out.mono ?_;rintro e w3 ⟨rfl,⟨L,g,cap,hh,hpl,hinv,hLl⟩,hb3⟩;clear Hwo;obtain⟨B3,hB3⟩:∃B3,B3=w2.heap.size:=⟨_,rfl⟩;rw[<-hB3]at hpl hb3 ⊢;obtain⟨p,hp⟩:∃p,p=B3+1:=⟨_,rfl⟩;rw[<-hp]at hpl ⊢;have Hw3:Hid (w.heap.size<=B3):=hid (by rw[hB3];exact Hb2.out.size);have apq:Hid (∀W,Below w.heap.size w W->zx B3 W):=hid (fun W hW=>(XK.out.below hW).mono Hw3.out);have HI0:Hid (PcI B3 p bw B fin w w3 [] q (.slice none 0 0) L):=hid ⟨qP _ _,by rw[Gd];exact(Hm2.out.below (hb3.mono (by rw[hB3];exact Nat.le_refl _))),⟨hh,g,cap,hpl⟩,by rw[Gd];exact hinv,hLl,⟨q+1,Nat.lt_succ_self _,iy.out⟩,Hb2.out.trans (hb3.mono Hw3.out),by have:=hb3.size;rw[<-hB3]at this;exact this⟩;clear hh hpl hinv hLl hb3 hB3 hp;go_wp2;clear hmm;go_loopw [6,8] (fun lv cv wr=>∃(T:List ByteArray) (left:Nat) (L:List Pce),lv=.int .i64 (left:Int)/\T.length+left<=256/\Hid (PcI B3 p bw B fin w wr T left cv L)) (fun lv _ _=>(intOf lv).toNat)
 case atStart=>exact⟨[],q,L,rfl,by simpa using alP,HI0⟩
 case round=>
  obtain⟨T,left,L,rfl,BX,HI⟩:=hrel;clear HI0;obtain⟨hI1,hI2,hI3,hI4,hI5,hI6,hI7,hI8⟩:=HI.out;obtain⟨hh,g,cap,hpl⟩:=hI3;have ahA:=hid (Xc B3 p bw 100000 g cap (wT B T) (cnd B) L wr hI8 hI5 HC.out (HF.out T) hh hpl hI4 hI2 (apq.out wr hI7));clear hI1 hI2 hI4 hI5 hI6 hI7 hI8 hh hpl;go_wp2_with fail
  refine ahA.out.mono ?_;rintro e w4 ⟨hres,hk4⟩;clear ahA;rcases hres with⟨⟨t,a,o⟩,L',he,ha,hsc,hiv,hl',hpo⟩ | ⟨he,hsc⟩
  ·rw[show pcV (t,a,o)=.agg #[.string t,.int .i64 (a:Int),.int .i64 (o:Int)]from rfl]at he;subst he;have ha:0<a:=ha;have hb:bst B T=(t,a):=by rw[MU]at hsc;exact hsc
   have hts:6<=t.size/\t.size<=16:=by
    have h1:=YB B T (by rw[hb];exact ha);rw[hb]at h1;exact h1
   have Hk4:=hid hk4;by_cases hlt:left<t.size
   ·have hfT:fin=T:=adl HI.out (.inr (by rw[hb];exact hlt));have dR:=hid (yI B3 p bw B fin w wr T left _ L HI.out Hw3.out hfT w4 hk4 (.cells #[.string t,.int .i64 (a:Int),.int .i64 (o:Int)] 55));clear hsc hiv hl' hpo hb hk4 hfT;go_wp2;go_ret;exact⟨_,rfl,dR.out.1,dR.out.2⟩
   ·have Hiv:=hid hiv;have Hpo:=hid hpo;have Hl':=hid hl';have Hb:=hid hb;obtain⟨hI1,hI2,hI3,hI4,hI5,hI6,hI7,hI8⟩:=HI.out;have h45:Below w4.heap.size w4 (w4.alloc (.cells #[.string t,.int .i64 (a:Int),.int .i64 (o:Int)] 55)):=(Below.refl _ _).alloc (Nat.le_refl _) _;have hm4:=hI2.ZK hk4;have amx:Hid (bw<w4.heap.size):=hid hm4.lt;have hn5:Row (w4.alloc (.cells #[.string t,.int .i64 (a:Int),.int .i64 (o:Int)] 55)) w4.heap.size 55 [.string t,.int .i64 (a:Int),.int .i64 (o:Int)]:=Row.new w4 55 [.string t,.int .i64 (a:Int),.int .i64 (o:Int)];have qm:=hid (Ga bw 100000 (wT B T) t _ (by omega) (HF.out T) (hm4.below h45));have H45:=hid h45;have Hn5:=hid hn5;have Ho4:=hid (hI1.ZK hk4);have Hb4:Hid (Below w.heap.size w w4):=hid (hI7.trans (hk4.bel.mono Hw3.out));have Hs4:Hid (B3<=w4.heap.size):=hid (Nat.le_trans hI8 hk4.bel.size);have Hm4:=hid hm4;clear hsc hiv hl' hpo hb hk4 hI1 hI2 hI3 hI4 hI5 hI6 hI7 hI8 hm4 h45 hn5;go_wp2_with fail
    refine qm.out.mono ?_;rintro e w6 ⟨rfl,hm6,hg6⟩;rw[agN]at hm6;have hr6:=Hn5.out.keep (hg6.block w4.heap.size Hn5.out.lt (by intro e;injection e with e;have:=amx.out;omega));have k0:=hr6.cell 0;simp only[List.getElem?_cons_zero]at k0;have Hm6:=hid hm6;have Hg6:=hid hg6;have Hcl:=hid (Ay t w6 (by omega));clear hm6 hg6 hr6 qm;go_wp2_with fail
    refine Hcl.out.mono ?_;rintro e w7 ⟨rfl,hb7⟩;have hg5:(w4.alloc (.cells #[.string t,.int .i64 (a:Int),.int .i64 (o:Int)] 55)).grownBy w7 (some bw):=Hg6.out.trans (ak hb7 _);have Ho7:Hid (mG w7 B3 u8 T):=hid ((Ho4.out.below H45.out).keep (fun g cs _ hr=>hr.keep (hg5.block g hr.lt (by intro e;injection e with e;exact((Hm4.out.below H45.out).ne hr) e.symm))));have Hm7:=hid (Hm6.out.below hb7);have Hp7:Hid (XM w7 B3 p L'):=hid ((Hpo.out.below H45.out).KW hg5 (fun b t cs e _ hr=>by
     injection e with e
     subst e;exact(Hm4.out.below H45.out).aao t cs hr))
    have Hb7:Hid (Below w.heap.size w w7):=hid ((Hb4.out.trans (H45.out.mono Hb4.out.size)).trans (below_grown hg5 Hbw.out (Nat.le_trans Hb4.out.size H45.out.size)));have Hs7:Hid (B3<=w7.heap.size):=hid (Nat.le_trans (Nat.le_trans Hs4.out H45.out.size) hg5.size);clear hb7 hg5 Hcl Hg6 Hm6 Ho4 Hb4 Hs4 Hm4 Hn5 H45 amx k0 Hpo;go_wp2_with (at_builtin;refine wpList_append_lies _ rfl _ _ 22 rfl B3 9 i0 (.string ⟨#[]⟩) 1 16 underlying22 hi hz0 hz1 hz2 rfl (by decide) _ _ _ rfl (Ho7.out.alloc _) ⟨w7.heap.size,0,none⟩ 1 1 [.string t] rfl rfl ?d1 ?d2 (by decide) ?d3 ?d4 ?d5 _ rfl ?_)
    case d1=>
     intro j u hj;match j,hj with
     | 0,hj=>simp at hj;subst hj;simp[Addr.add]
    case d2=>intro u hu;simp at hu;subst hu;rfl
    case d3=>unfold maxLen;omega
    case d4=>omega
    case d5=>simpa using Nat.le_trans Hs7.out (Nat.le_succ _)
    intro g8 anj w8 ajg aiT apT aqg;have h78:Below w7.heap.size w7 (w7.alloc (.cells #[.string t] 9)):=(Below.refl _ _).alloc (Nat.le_refl _) _;have hrow:∀b,u8.ownBlock=some b->B3<=b/\∃cs,Row (w7.alloc (.cells #[.string t] 9)) b 9 cs:=fun b e=>(Ho7.out.below h78).block e
    have hm8:jy w8 bw 100000 (wT B (T++[t])):=(Hm7.out.below h78).kept aiT (fun e=>by
     obtain⟨_,cs,hr⟩:=hrow bw e.symm;exact(Hm7.out.below h78).aao _ _ hr)
    have hp8:XM w8 B3 p L':=(Hp7.out.below h78).KW aiT (fun b t' cs e ht hr=>by
     obtain⟨_,cs',hr'⟩:=hrow b e;have h1:=row_one hr hr';rcases ht with ht | ht
     ·rw[ht]at h1;exact absurd h1 (by decide)
     ·rw[ht]at h1;exact absurd h1 (by decide))
    have ho8:mG w8 B3 (.slice (some ⟨g8,0,none⟩) (T.length+1) anj) (T++[t]):=by
     unfold mG;rw[List.length_append,List.length_singleton];have e:jF (T++[t])=jF T++[Value.string t]:=by simp[jF]
     rw[e];exact ajg
    have hb8:Below w.heap.size w w8:=(Hb7.out.trans (h78.mono Hb7.out.size)).grown aiT (Nat.le_trans Hb7.out.size h78.size) (fun b e=>Nat.le_trans Hw3.out (hrow b e).1);have anV:ql (cnd B) (wor (wT B (T++[t]))) L':=by
     have h1:=Hiv.out;rw[MU]at h1 ⊢;exact Oi h1 (fun u=>Di B T t u) (yQ B T t)
    have hfx:∃f,left-t.size<f/\pcN B f (left-t.size) (T++[t])=fin:=by
     obtain⟨_,_,_,_,_,⟨f,hf,hpc⟩,_⟩:=HI.out;obtain⟨f',rfl⟩:∃f',f=f'+1:=⟨f-1,by omega⟩;have hbs:=Hb.out;rw[aax B f' left T (by rw[hbs];show ¬(a=0\/left<t.size);omega),hbs]at hpc;exact⟨f',by omega,hpc⟩
    have HI8:Hid (PcI B3 p bw B fin w w8 (T++[t]) (left-t.size) (.slice (some ⟨g8,0,none⟩) (T.length+1) anj) L'):=hid ⟨ho8,hm8,hp8,anV,Hl'.out,hfx,hb8,Nat.le_trans (Nat.le_trans Hs7.out h78.size) aiT.size⟩;clear ajg aiT apT aqg h78 hrow hm8 hp8 ho8 hb8 anV hfx;go_wp2;go_roundw
    case rel=>exact⟨T++[t],left-t.size,L',by go_num,by rw[List.length_append,List.length_singleton];omega,HI8⟩
    case measure=>simp[intOf];omega
  ·rw[show pcV oI=.agg #[.string ⟨#[]⟩,.int .i64 0,.int .i64 0]from rfl]at he;subst he;have hfT:fin=T:=adl HI.out (.inl (by rw[MU]at hsc;show(scan _ _ _).2=0;rw[hsc]));have dR:=hid (yI B3 p bw B fin w wr T left _ L HI.out Hw3.out hfT w4 hk4 (.cells #[.string ⟨#[]⟩,.int .i64 0,.int .i64 0] 55));clear hsc hk4 hfT;go_wp2;go_ret;exact⟨_,rfl,dR.out.1,dR.out.2⟩
end Go.Proofs.YtaebnkeddcbmkaaGreat
