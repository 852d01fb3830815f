/- Contracts, and what they rest on. Conditions: the theorems' premises. -/
import Derived.Test.YtgiicohbigiapaaGreatYbh
import Derived.Test.YtgiicohbigiapaaGreatYag
set_option maxHeartbeats 4000000
set_option maxRecDepth 100000
open Go.Lib(hid)
open Go.Proofs.Tryz Go.Proofs.YtgiicohbigiapaaGreat.Bm
namespace Go.Proofs.YtgiicohbigiapaaGreat
open Go.RowKit
def Zg(w':World)(b:Nat)(bs:List Nat)(e:Ending):Option (List Nat×Nat)→Prop
 | none=>∃A c,e=.returned (.tuple #[.slice A 0 c,.bool false])
 | some t=>(∃A c,e=.returned (.tuple #[.slice A t.1.length c,.bool true])∧Reads w' A (u8s t.1))∧CR w' b (some (bs.drop t.2))
theorem Jt(b n:Nat)(t:List Nat)(st:Left)(s1 s2:ByteArray)(w:World)
  (h1:Calls prog 112 #[.pointer (some ⟨b,0,none⟩),.int .i64 4096] w fun e w'=>e=.returned (.string s1)∧CR w' b st∧w.grownBy w' (some b))
  (h2:∀W,CR W b st→Calls prog 112 #[.pointer (some ⟨b,0,none⟩),.int .i64 4096] W fun e W'=>e=.returned (.string s2)∧CR W' b none∧W.grownBy W' (some b)) :
  Calls prog 182 #[.pointer (some ⟨b,0,none⟩),.int .i64 (n:Int)] w fun e w'=>Zg w' b t e none∧w.grownBy w' (some b):=by
 have H1:=hid h1;have H2:=hid h2;clear h1 h2;go_enter func182,ntmps182
 go_wp2_with fail
 refine H1.out.mono ?_;rintro e w1 ⟨rfl,hc1,hg1⟩;have H3:=hid (H2.out w1 hc1);have Hg1:=hid hg1;clear hc1 hg1 H1 H2;go_wp2_with fail
 refine H3.out.mono ?_;rintro e w2 ⟨rfl,hc2,hg2⟩;have Hb:=hid (aK b none w2 hc2);have Hg2:=hid (ay Hg1.out hg2);clear hc2 hg2 Hg1 H3;go_wp2_with fail
 refine Hb.out.mono ?_;rintro e w3 ⟨rfl,rfl⟩;clear Hb;go_wp2;go_ret2;exact⟨⟨_,_,rfl⟩,Hg2.out⟩
theorem WL(b n:Nat)(t:List Nat)(w:World)(ht:t.length≤100000000)(hlt:∀x∈t,x<256)(h:CR w b (some t)) :
  Calls prog 182 #[.pointer (some ⟨b,0,none⟩),.int .i64 (n:Int)] w fun e w'=>Zg w' b t e (fA t n)∧w.grownBy w' (some b):=by
 have h1:=mF b (some t) 4096 w (by omega) (by omega) ⟨hlt,ht⟩ h;unfold fA;cases hp:qz t with
 | none=>
  rw[Bb t hp]at h1;exact Jt b n t none _ (strOf []) w h1 (fun W hc=>mF b none 4096 W (by omega) (by omega) trivial hc)
 | some p=>
  obtain⟨hd,k⟩:=p;obtain⟨e1,hl1⟩:=Bc t _ hp;have hm1:=GI t _ hp hlt;rw[e1]at h1;dsimp only at h1 hl1 hm1 ⊢;have hdl:(t.drop k).length≤100000000:=by rw[List.length_drop];omega
  have hdt:∀x∈t.drop k,x<256:=dB hlt k;have h2:=fun W (hc:CR W b (some (t.drop k)))=>mF b (some (t.drop k)) 4096 W (by omega) (by omega) ⟨hdt,hdl⟩ hc
  cases hq:qz (t.drop k)with
  | none=>
   rw[Bb _ hq]at h2;exact Jt b n t _ _ _ w h1 h2
  | some q=>
   obtain⟨bd,m⟩:=q;obtain⟨e2,hl2⟩:=Bc _ _ hq;have hm2:=GI _ _ hq hdt;rw[e2]at h2;dsimp only at h2 hl2 hm2 ⊢;rw[List.drop_drop]at h2;have H1:=hid h1;have H2:=hid h2;have Yx:=hid (fun W=>WT hd W hl1 hm1);have hfair:=KT hd;obtain⟨r,hr⟩:∃r,r=Bm.headD hd:=⟨_,rfl⟩;rw[←hr]at Yx hfair ⊢;have jC:=hid (fun W=>bT W bd hm2);clear hr h1 h2 e1 e2 hp hq hdl hdt hm1;cases r with
   | none=>
    dsimp only;clear hfair jC;generalize strOf hd=s1 at *;generalize strOf bd=s2 at *;go_enter func182,ntmps182
    go_wp2_with fail
    refine H1.out.mono ?_;rintro e w1 ⟨rfl,hc1,hg1⟩;have H3:=hid (H2.out w1 hc1);have Hg1:=hid hg1;clear hc1 hg1 H1 H2;go_wp2_with fail
    refine H3.out.mono ?_;rintro e w2 ⟨rfl,hc2,hg2⟩;have Hb:=hid (aK b _ w2 hc2);have Hg2:=hid (ay Hg1.out hg2);clear hc2 hg2 Hg1 H3;go_wp2_with fail
    refine Hb.out.mono ?_;rintro e w3 ⟨rfl,rfl⟩;have Ht2:=hid (Yx.out w2);clear Hb Yx;go_wp2_with fail
    refine Ht2.out.mono ?_;rintro e w4 ⟨rfl,hb4⟩;have Hg4:=hid (ay Hg2.out (aj hb4 _));clear hb4 Ht2 Hg2;go_wp2;go_ret2;exact⟨⟨_,_,rfl⟩,Hg4.out⟩
   | some tb=>
    obtain⟨ls,lg⟩:=tb;have hf:=hfair _ rfl;dsimp only at hf ⊢;have Nv:Hid (∀W p A c,qE W p ls lg→Reads W A (u8s bd)→Calls prog 211 #[.pointer (some p),.slice A bd.length c,.int .i64 (n:Int)] W fun e w'=>uE w' e (zU ls lg bd (n:Int))∧Below W.heap.size W w'):=hid (fun W p A c hst hrd=>UN W p ls lg A c bd (n:Int) hf hst (by omega) hm2 hrd);clear hfair hf;obtain⟨rr,hrr⟩:∃rr,rr=zU ls lg bd (n:Int):=⟨_,rfl⟩;rw[←hrr]at Nv ⊢;clear hrr;generalize strOf hd=s1 at *;have hx:=jC.out;clear jC;generalize strOf bd=s2 at *;have jC:=hid hx;clear hx;go_enter func182,ntmps182
    go_wp2_with fail
    refine H1.out.mono ?_;rintro e w1 ⟨rfl,hc1,hg1⟩;have H3:=hid (H2.out w1 hc1);have Hg1:=hid hg1;clear hc1 hg1 H1 H2;go_wp2_with fail
    refine H3.out.mono ?_;rintro e w2 ⟨rfl,hc2,hg2⟩;have Hb:=hid (aK b _ w2 hc2);have Hg2:=hid (ay Hg1.out hg2);have Hc2:=hid hc2;clear hc2 hg2 Hg1 H3;go_wp2_with fail
    refine Hb.out.mono ?_;rintro e w3 ⟨rfl,rfl⟩;have Ht2:=hid (Yx.out w2);clear Hb Yx;go_wp2_with fail
    refine Ht2.out.mono ?_;rintro e w4 ⟨⟨p,rfl,hst⟩,hb4⟩;have Hg4:=hid (ay Hg2.out (aj hb4 _));have Hc4:=hid (Hc2.out.below hb4);obtain⟨w5,cap,dh,hcell,hb5⟩:=jC.out w4;have hrs:Reads w5 (some ⟨w4.heap.size,0,none⟩) (u8s bd):=fun _=>⟨_,_,rfl,fun j hj=>by
     rw[aO]at hj;rw[Nat.zero_add,hcell j hj,bD bd j hj]⟩
    have Hd5:=hid (Nv.out w5 p _ cap (bX _ _ _ _ _ hst hb5) hrs);have Hg5:=hid (ay Hg4.out (aj hb5 _));have Hc5:=hid (Hc4.out.below hb5);clear hst hb4 hcell hrs hb5 Ht2 Hg2 Hc2 Hg4 Hc4 Nv jC;go_wp2_with fail
    refine Hd5.out.mono ?_;rintro e w6 ⟨hbp,hb6⟩;have Hg6:=hid (ay Hg5.out (aj hb6 _));have Hc6:=hid (Hc5.out.below hb6);clear Hd5 hb6 Hg5 Hc5 dh;cases rr with
    | none=>
     obtain⟨A,c,rfl⟩:=hbp;go_wp2;go_ret2;exact⟨⟨_,_,rfl⟩,Hg6.out⟩
    | some l=>
     obtain⟨A,c,rfl,hrd⟩:=hbp;have Hrd:=hid hrd;clear hrd;go_wp2;go_ret2;exact⟨⟨⟨_,_,rfl,Hrd.out⟩,Hc6.out⟩,Hg6.out⟩
theorem Rv(b n:Nat)(bs:List Nat)(w:World)(hl:bs.length≤100000000)(hlt:∀x∈bs,x<256)(h1:1≤n)(hn:n≤4096)(h:CR w b (some bs)) :
  Calls prog 146 #[.pointer (some ⟨b,0,none⟩),.int .i64 (n:Int)] w fun e w'=>Zg w' b bs e (nN bs n)∧w.grownBy w' (some b):=by
 have hfx:=jZ b (some bs) 1 w (by omega) (by omega) ⟨hlt,hl⟩ h;cases bs with
 | nil=>
  have e1:gU (fx 1) (some [])=([],none):=rfl;rw[e1]at hfx;have Hfx:=hid hfx;clear hfx h hlt e1;show Calls prog 146 #[.pointer (some ⟨b,0,none⟩),.int .i64 (n:Int)] w fun e w'=>Zg w' b [] e none∧w.grownBy w' (some b)
  generalize hv:(aV ([],(none:Left)).1)=v at *;go_enter func146,ntmps146
  go_wp2_with fail
  refine Hfx.out.mono ?_;rintro e w1 ⟨rfl,hc1,hg1⟩;have Hb:=hid (aK b _ w1 hc1);have Hg1:=hid hg1;clear hc1 hg1 Hfx;go_wp2_with fail
  refine Hb.out.mono ?_;rintro e w3 ⟨rfl,rfl⟩;clear Hb;go_wp2;go_ret2;exact⟨⟨_,_,rfl⟩,Hg1.out⟩
 | cons k t=>
  rw[tZ k t]at hfx;have hk:=hlt k List.mem_cons_self;have htl:t.length≤100000000:=by rw[List.length_cons]at hl;omega
  have htt:∀x∈t,x<256:=fun x hx=>hlt x (List.mem_cons_of_mem _ hx)
  have hv:aV ([k],some t).1=k:=by simp[aV]
  rw[hv]at hfx;have Hfx:=hid hfx;have hdrop:∀m,(k :: t).drop (1+m)=t.drop m:=fun m=>by rw[Nat.add_comm,List.drop_succ_cons]
  clear hfx h hlt hl hv;have tH:=hid (fun W (hc:CR W b (some t))=>aK b (some t) W hc);by_cases hk0:k=0
  ·subst hk0;rw[Dp];have fI:=hid (fun W (hc:CR W b (some t))=>fT b (some t) (n:Int) W hc);rw[Int.toNat_natCast]at fI;by_cases hc:n≤t.length
   ·rw[if_pos hc];rw[vW n t hc]at fI;have hln:(t.take n).length=n:=by rw[List.length_take];omega
    have jC:=hid (fun W=>bT W (t.take n) (gM htt n));have Hdr:=hid (hdrop n);dsimp only at fI;unfold Zg;dsimp only;rw[Hdr.out];clear Hdr hdrop htt hc;generalize t.take n=tn at *;generalize t.drop n=td at *;generalize hstr:strOf tn=st at *;clear hstr;go_enter func146,ntmps146
    go_wp2_with fail
    refine Hfx.out.mono ?_;rintro e w1 ⟨rfl,hc1,hg1⟩;have Hb:=hid (tH.out w1 hc1);have Hr1:=hid (fI.out w1 hc1);have Hg1:=hid hg1;clear hc1 hg1 Hfx tH fI;go_wp2_with fail
    refine Hb.out.mono ?_;rintro e w3 ⟨rfl,rfl⟩;clear Hb;go_wp2_with fail
    refine Hr1.out.mono ?_;rintro e w2 ⟨rfl,hc2,hg2⟩;obtain⟨w5,cap,dh,hcell,hb5⟩:=jC.out w2;have Hrs:Hid (Reads w5 (some ⟨w2.heap.size,0,none⟩) (u8s tn)):=hid (fun _=>⟨_,_,rfl,fun j hj=>by
     rw[aO]at hj;rw[Nat.zero_add,hcell j hj,bD tn j hj]⟩)
    have Hg5:=hid (ay (ay Hg1.out hg2) (aj hb5 _));have hc5:=hc2.below hb5;have Hb5:=hid (aK b _ w5 hc5);have Hc5:=hid hc5;clear hg2 hcell hb5 hc2 Hg1 jC hc5 Hr1;go_wp2_with fail
    refine Hb5.out.mono ?_;rintro e w6 ⟨rfl,rfl⟩;clear dh Hb5;go_wp2;go_ret2;refine⟨⟨⟨some ⟨w2.heap.size,0,none⟩,cap,?_,Hrs.out⟩,Hc5.out⟩,Hg5.out⟩;rw[hln];rfl
   ·rw[if_neg hc];rw[Dm n t hc]at fI;have jC:=hid (fun W=>bT W [] (by simp));dsimp only at fI;clear hdrop htt hc;generalize hstr:strOf []=st at *;clear hstr;go_enter func146,ntmps146
    go_wp2_with fail
    refine Hfx.out.mono ?_;rintro e w1 ⟨rfl,hc1,hg1⟩;have Hb:=hid (tH.out w1 hc1);have Hr1:=hid (fI.out w1 hc1);have Hg1:=hid hg1;clear hc1 hg1 Hfx tH fI;go_wp2_with fail
    refine Hb.out.mono ?_;rintro e w3 ⟨rfl,rfl⟩;clear Hb;go_wp2_with fail
    refine Hr1.out.mono ?_;rintro e w2 ⟨rfl,hc2,hg2⟩;obtain⟨w5,cap,dh,hcell,hb5⟩:=jC.out w2;have Hg5:=hid (ay (ay Hg1.out hg2) (aj hb5 _));have Hb5:=hid (aK b _ w5 (hc2.below hb5));clear hg2 hcell hb5 hc2 Hg1 jC Hr1;go_wp2_with fail
    refine Hb5.out.mono ?_;rintro e w6 ⟨rfl,rfl⟩;clear dh Hb5;go_wp2;go_ret2;exact⟨⟨_,_,rfl⟩,Hg5.out⟩
  ·by_cases hk1:k=1
   ·subst hk1;rw[Dq];have fI:=hid (fun W (hc:CR W b (some t))=>fT b (some t) 1 W hc);cases t with
    | nil=>
     have e1:gU (1:Int).toNat (some ([]:List Nat))=([],none):=rfl;rw[e1]at fI;rw[if_neg (by simp)];have jC:=hid (fun W=>bT W [] (by simp));have Hrep:=hid (fun A c W=>WM A c n W h1 hn);dsimp only at fI;clear hdrop htt e1 hk0;generalize hstr:strOf []=st at *;clear hstr;go_enter func146,ntmps146
     go_wp2_with fail
     refine Hfx.out.mono ?_;rintro e w1 ⟨rfl,hc1,hg1⟩;have Hb:=hid (tH.out w1 hc1);have Hr1:=hid (fI.out w1 hc1);have Hg1:=hid hg1;clear hc1 hg1 Hfx tH fI;go_wp2_with fail
     refine Hb.out.mono ?_;rintro e w3 ⟨rfl,rfl⟩;clear Hb;go_wp2_with fail
     refine Hr1.out.mono ?_;rintro e w2 ⟨rfl,hc2,hg2⟩;obtain⟨w5,cap,dh,hcell,hb5⟩:=jC.out w2;have Hg5:=hid (ay (ay Hg1.out hg2) (aj hb5 _));have Hc5:=hid (hc2.below hb5);have Hr5:=hid (Hrep.out (some ⟨w2.heap.size,0,none⟩) cap w5);clear hg2 hcell hb5 hc2 Hg1 jC Hr1 Hrep;go_wp2_with fail
     refine Hr5.out.mono ?_;rintro e w6 ⟨⟨A6,c6,rfl⟩,hb6⟩;have Hg6:=hid (ay Hg5.out (aj hb6 _));have Hb6:=hid (aK b _ w6 (Hc5.out.below hb6));clear hb6 Hg5 Hc5 Hr5 dh;go_wp2_with fail
     refine Hb6.out.mono ?_;rintro e w7 ⟨rfl,rfl⟩;clear Hb6;go_wp2;go_ret2;exact⟨⟨_,_,rfl⟩,Hg6.out⟩
    | cons x t=>
     have e1:gU (1:Int).toNat (some (x :: t))=([x],some t):=rfl;have hx:=htt x List.mem_cons_self;rw[e1]at fI;rw[if_pos (by simp)];simp only[List.getElem?_cons_zero,Option.getD_some];have jC:=hid (fun W=>bT W [x] (by simpa using hx));have Hrep:=hid (fun A c W hr=>WO A c x n W hx h1 hn hr);dsimp only at fI;have Hdr:Hid ((1 :: x :: t).drop 2=t):=hid rfl;unfold Zg;dsimp only;rw[Hdr.out,List.length_replicate];clear hdrop htt e1 hk0 Hdr;generalize hstr:strOf [x]=st at *;clear hstr;go_enter func146,ntmps146
     go_wp2_with fail
     refine Hfx.out.mono ?_;rintro e w1 ⟨rfl,hc1,hg1⟩;have Hb:=hid (tH.out w1 hc1);have Hr1:=hid (fI.out w1 hc1);have Hg1:=hid hg1;clear hc1 hg1 Hfx tH fI;go_wp2_with fail
     refine Hb.out.mono ?_;rintro e w3 ⟨rfl,rfl⟩;clear Hb;go_wp2_with fail
     refine Hr1.out.mono ?_;rintro e w2 ⟨rfl,hc2,hg2⟩;obtain⟨w5,cap,dh,hcell,hb5⟩:=jC.out w2;have hrs:Reads w5 (some ⟨w2.heap.size,0,none⟩) (u8s [x]):=fun _=>⟨_,_,rfl,fun j hj=>by
      rw[aO]at hj;rw[Nat.zero_add,hcell j hj,bD [x] j hj]⟩
     have Hg5:=hid (ay (ay Hg1.out hg2) (aj hb5 _));have Hc5:=hid (hc2.below hb5);have Hr5:=hid (Hrep.out (some ⟨w2.heap.size,0,none⟩) cap w5 hrs);clear hg2 hcell hb5 hc2 Hg1 jC Hr1 Hrep hrs;go_wp2_with fail
     refine Hr5.out.mono ?_;rintro e w6 ⟨⟨A6,c6,rfl,ajh⟩,hb6⟩;have Hg6:=hid (ay Hg5.out (aj hb6 _));have hc6:=Hc5.out.below hb6;have Hb6:=hid (aK b _ w6 hc6);have Hc6:=hid hc6;have ako:=hid ajh;clear hb6 Hg5 Hc5 Hr5 dh hc6 ajh;go_wp2_with fail
     refine Hb6.out.mono ?_;rintro e w7 ⟨rfl,rfl⟩;clear Hb6;go_wp2;go_ret2;exact⟨⟨⟨_,_,rfl,ako.out⟩,Hc6.out⟩,Hg6.out⟩
   ·by_cases hk2:k=2
    ·subst hk2;rw[Dr];have Ej:=hid (fun W (hc:CR W b (some t))=>WL b n t W htl htt hc);generalize fA t n=r at *;clear htt hk0 hk1 htl;go_enter func146,ntmps146
     go_wp2_with fail
     refine Hfx.out.mono ?_;rintro e w1 ⟨rfl,hc1,hg1⟩;have Hb:=hid (tH.out w1 hc1);have Hr1:=hid (Ej.out w1 hc1);have Hg1:=hid hg1;clear hc1 hg1 Hfx tH Ej;go_wp2_with fail
     refine Hb.out.mono ?_;rintro e w3 ⟨rfl,rfl⟩;clear Hb;go_wp2_with fail
     refine Hr1.out.mono ?_;rintro e w2 ⟨hcp,hg2⟩;have Hg2:=hid (ay Hg1.out hg2);clear hg2 Hg1 Hr1;cases r with
     | none=>
      obtain⟨A,c,rfl⟩:=hcp;go_wp2;go_ret2;exact⟨⟨_,_,rfl⟩,Hg2.out⟩
     | some q=>
      obtain⟨⟨A,c,rfl,hrd⟩,hc2⟩:=hcp;have Hrd:=hid hrd;have Hc2:=hid hc2;clear hrd hc2;go_wp2;go_ret2;exact⟨⟨⟨_,_,rfl,Hrd.out⟩,by show CR w2 b (some ((2 :: t).drop (1+q.2)));rw[hdrop];exact Hc2.out⟩,Hg2.out⟩
    ·rw[Jw k t n (by omega)];have d0:((k:Int) == 0)=false:=by rw[beq_eq_false_iff_ne];omega
     have d1:((k:Int) == 1)=false:=by rw[beq_eq_false_iff_ne];omega
     have d2:((k:Int) == 2)=false:=by rw[beq_eq_false_iff_ne];omega
     clear hk0 hk1 hk2 hdrop htt;go_enter func146,ntmps146
     go_wp2_with fail
     refine Hfx.out.mono ?_;rintro e w1 ⟨rfl,hc1,hg1⟩;have Hb:=hid (tH.out w1 hc1);have Hg1:=hid hg1;clear hc1 hg1 Hfx tH;go_wp2_with fail
     refine Hb.out.mono ?_;rintro e w3 ⟨rfl,rfl⟩;clear Hb;go_wp2;go_ret2;exact⟨⟨_,_,rfl⟩,Hg1.out⟩
theorem LM(b n:Nat)(bs:List Nat)(w:World)(hl:bs.length≤100000000)(hlt:∀x∈bs,x<256)(h1:1≤n)(hn:n≤4096)(h:CR w b (some bs)) :
  Calls prog 111 #[.pointer (some ⟨b,0,none⟩),.int .i64 (n:Int)] w fun e w'=>Zg w' b bs e (DJ bs n)∧w.grownBy w' (some b):=by
 have Hrd:=hid (Rv b n bs w hl hlt h1 hn h);have d0:decide ((n:Int)<0)=false:=decide_eq_false (by omega);have d1:decide ((4096:Int)<(n:Int))=false:=decide_eq_false (by omega);have hmem:=Jy bs n hlt;unfold DJ;generalize nN bs n=r at *;clear hlt h;cases r with
 | none=>
  dsimp only;go_enter func111,ntmps111
  go_wp2_with fail
  refine Hrd.out.mono ?_;rintro e w1 ⟨⟨A,c,rfl⟩,hg1⟩;have Hg1:=hid hg1;clear hg1 Hrd;go_wp2;go_ret2;exact⟨⟨_,_,rfl⟩,Hg1.out⟩
 | some q=>
  obtain⟨l,k⟩:=q;dsimp only;obtain⟨hl2,hlt2⟩:=hmem l k rfl;have Hok:=hid (fun A c W hr=>LJ A c l W (by omega) hlt2 hr);clear hl2;by_cases h28:∀x∈l,x<28
  ·rw[if_pos h28];rw[decide_eq_true h28]at Hok;clear h28 hlt2 hmem;go_enter func111,ntmps111
   go_wp2_with fail
   refine Hrd.out.mono ?_;rintro e w1 ⟨⟨⟨A,c,rfl,hrd⟩,hc1⟩,hg1⟩;have Hg1:=hid hg1;have ady:=hid (Hok.out A c w1 hrd);have Yu:=hid hrd;have Hc1:=hid hc1;clear hg1 Hrd hrd hc1 Hok;go_wp2_with fail
   refine ady.out.mono ?_;rintro e w2 ⟨rfl,rfl⟩;clear ady;go_wp2;go_ret2;exact⟨⟨⟨_,_,rfl,Yu.out⟩,Hc1.out⟩,Hg1.out⟩
  ·rw[if_neg h28];rw[decide_eq_false h28]at Hok;clear h28 hlt2 hmem;go_enter func111,ntmps111
   go_wp2_with fail
   refine Hrd.out.mono ?_;rintro e w1 ⟨⟨⟨A,c,rfl,hrd⟩,hc1⟩,hg1⟩;have Hg1:=hid hg1;have ady:=hid (Hok.out A c w1 hrd);clear hg1 Hrd hrd hc1 Hok;go_wp2_with fail
   refine ady.out.mono ?_;rintro e w2 ⟨rfl,rfl⟩;clear ady;go_wp2;go_ret2;exact⟨⟨_,_,rfl⟩,Hg1.out⟩
def afA(w':World)(b:Nat)(bs:List Nat)(e:Ending):Option (List Bm.Stp×Nat)→Prop
 | none=>∃A c,e=.returned (.tuple #[.slice A 0 c,.bool false])
 | some t=>(∃A c,e=.returned (.tuple #[.slice A t.1.length c,.bool true])∧Bj w' A t.1)∧CR w' b (some (bs.drop t.2))
theorem rE{w w':World}{A:Option Addr}{l:List Nat}{b:Nat}{t:TypeId}{cs:List Value}(h:Row w b t cs)(hn:∀(m:Nat) (z:Int),cs[m]?≠some (.int .u8 z))(hr:Reads w A (u8s l))(hg:w.grownBy w' (some b)):Reads w' A (u8s l):=fun hne=>by
 obtain⟨g,off,rfl,hc⟩:=hr hne;refine⟨g,off,rfl,fun j hj=>?_⟩;have h1:=hc j hj;rw[aO]at hj;rw[bD l j hj]at h1 ⊢;refine hg.cell h1 (fun e=>?_);injection e with e
 dsimp only at e;subst e;exact hn _ _ ((Row.cell h (off+j)).symm.trans h1)
theorem vX(st:Left)(m:Nat)(z:Int):(jX st)[m]?≠some (.int .u8 z):=by
 intro hx;rcases st with _ | bs
 all_goals
  match m,hx with
  | 0,hx=>simp[jX]at hx
  | 1,hx=>simp[jX]at hx
  | m+2,hx=>simp[jX]at hx
def Xr(n:Nat)(Ss:List (Option Addr×Nat×List Nat))(m:Nat):List Value:=(Ss.map fun s=>Value.slice s.1 n s.2.1)++List.replicate m (.slice none 0 0)
theorem DC(n m:Nat)(Ss:List (Option Addr×Nat×List Nat))(i:Nat)(z:Int):(Xr n Ss m)[i]?≠some (.int .u8 z):=by
 intro h;have hm:=List.mem_of_getElem? h;unfold Xr at hm;rcases List.mem_append.1 hm with hm | hm
 ·obtain⟨s,_,e⟩:=List.mem_map.1 hm;cases e
 ·rw[List.mem_replicate]at hm;cases hm.2
def Um(w:World)(n:Nat)(Ss:List (Option Addr×Nat×List Nat)):Prop:=∀s∈Ss,(s.2.2.length=n∧∀x∈s.2.2,x<28)∧Reads w s.1 (u8s s.2.2)
theorem Um.ahk{w w':World}{n:Nat}{Ss:List (Option Addr×Nat×List Nat)}{b:Nat}{t:TypeId}{cs:List Value}(hs:Um w n Ss)(h:Row w b t cs)(hn:∀(m:Nat) (z:Int),cs[m]?≠some (.int .u8 z))(hg:w.grownBy w' (some b)):Um w' n Ss:=
 fun s hm=>⟨(hs s hm).1,rE h hn (hs s hm).2 hg⟩
theorem Um.below{w w':World}{n:Nat}{Ss:List (Option Addr×Nat×List Nat)}(hs:Um w n Ss)(hb:Below w.heap.size w w'):Um w' n Ss:=
 fun s hm=>⟨(hs s hm).1,aC (hs s hm).2 hb⟩
theorem abE(b:Nat)(bs:List Nat)(most:Int)(w:World)
  (hint:Calls prog 40 #[.pointer (some ⟨b,0,none⟩),.int .i64 (min most 1000)] w fun e w'=>e=.returned (.int .i64 0)∧CR w' b none∧w.grownBy w' (some b)) :
  Calls prog 73 #[.pointer (some ⟨b,0,none⟩),.int .i64 most] w fun e w'=>afA w' b bs e none∧w.grownBy w' (some b):=by
 have H1:=hid hint;clear hint;go_enter func73,ntmps73
 go_wp2_with fail
 refine H1.out.mono ?_;rintro e w1 ⟨rfl,hc1,hg1⟩;have Hb:=hid (aK b none w1 hc1);have Hg1:=hid hg1;clear hc1 hg1 H1;go_wp2_with fail
 refine Hb.out.mono ?_;rintro e w3 ⟨rfl,rfl⟩;clear Hb;go_wp2;go_ret2;exact⟨⟨_,_,rfl⟩,Hg1.out⟩
theorem Rs(b k:Nat)(bs:List Nat)(most:Int)(w:World)
  (hint:Calls prog 40 #[.pointer (some ⟨b,0,none⟩),.int .i64 (min most 1000)] w fun e w'=>e=.returned (.int .i64 0)∧CR w' b (some (bs.drop k))∧w.grownBy w' (some b)) :
  Calls prog 73 #[.pointer (some ⟨b,0,none⟩),.int .i64 most] w fun e w'=>afA w' b bs e (some ([],k))∧w.grownBy w' (some b):=by
 have H1:=hid hint;clear hint;go_enter func73,ntmps73
 go_wp2_with fail
 refine H1.out.mono ?_;rintro e w1 ⟨rfl,hc1,hg1⟩;have Hb:=hid (aK b _ w1 hc1);have Hg1:=hid hg1;have Hc1:=hid hc1;clear hc1 hg1 H1;go_wp2_with fail
 refine Hb.out.mono ?_;rintro e w3 ⟨rfl,rfl⟩;clear Hb;go_wp2;go_ret2;exact⟨⟨⟨_,_,rfl,fun h=>absurd h (by simp)⟩,Hc1.out⟩,Hg1.out⟩
theorem Rq(b k n:Nat)(bs:List Nat)(most:Int)(w:World)(hn0:1≤n)(hn:n≤1000)(hl:bs.length≤100000000)(hlt:∀x∈bs,x<256)
  (hint:Calls prog 40 #[.pointer (some ⟨b,0,none⟩),.int .i64 (min most 1000)] w fun e w'=>e=.returned (.int .i64 (n:Int))∧CR w' b (some (bs.drop k))∧w.grownBy w' (some b)) :
  Calls prog 73 #[.pointer (some ⟨b,0,none⟩),.int .i64 most] w fun e w'=>afA w' b bs e (match fV 3 (bs.drop k) n with
   | none=>none
   | some p=>match qz ((bs.drop k).drop p.2)with
    | none=>none
    | some q=>(kg p.1 n q.1).map fun l=>(l,k+p.2+q.2))∧w.grownBy w' (some b):=by
 obtain⟨res,hres⟩:∃res,res=(match fV 3 (bs.drop k) n with
   | none=>none
   | some p=>match qz ((bs.drop k).drop p.2)with
    | none=>none
    | some q=>(kg p.1 n q.1).map fun l=>(l,k+p.2+q.2)):=⟨_,rfl⟩
 rw[←hres];obtain⟨S3,hS3⟩:∃S3,S3=fV 3 (bs.drop k) n:=⟨_,rfl⟩;rw[←hS3]at hres;have HS3:=hid hS3;have dQ:=hid hres;have H1:=hid hint;have Hun:=hid (fun m W (hc:CR W b (some (bs.drop m)))=>LM b n (bs.drop m) W (by rw[List.length_drop];omega) (dB hlt m) hn0 (by omega) hc);have Htx:=hid (fun m W (hc:CR W b (some (bs.drop m)))=>mF b (some (bs.drop m)) 4096 W (by omega) (by omega) ⟨dB hlt m,by rw[List.length_drop];omega⟩ hc);have Hlt:=hid (fun m=>dB hlt m);have dn:((n:Int) == 0)=false:=by rw[beq_eq_false_iff_ne];omega
 clear hint hres hlt hl hS3;go_enter func73,ntmps73
 go_wp2_with fail
 refine H1.out.mono ?_;rintro e w1 ⟨rfl,hc1,hg1⟩;have Hb:=hid (aK b _ w1 hc1);have Hg1:=hid hg1;have Hc1:=hid hc1;clear hc1 hg1 H1;go_wp2_with fail
 refine Hb.out.mono ?_;rintro e w3 ⟨rfl,rfl⟩;clear Hb;obtain⟨ba,hba⟩:∃ba,w1.heap.size=ba:=⟨_,rfl⟩;have hra:=Row.new w1 108 (Xr n [] 3);have hbel:=(Below.refl w1.heap.size w1).alloc (Nat.le_refl _) (.cells #[.slice none 0 0,.slice none 0 0,.slice none 0 0] 108);have e3:w1.alloc (.cells (Xr n [] 3).toArray 108)=w1.alloc (.cells #[.slice none 0 0,.slice none 0 0,.slice none 0 0] 108):=rfl;rw[e3,hba]at hra;have Hra:=hid hra;have Hba:=hid hba;have Hc2:=hid (Hc1.out.below hbel);have Hg2:=hid (ay Hg1.out (aj hbel _));have hbb:b<ba:=by rw[←hba];exact Hc1.out.lt
 have hws:w.heap.size≤ba:=by rw[←hba];exact Hg1.out.size
 clear hra hbel e3 hba Hc1 Hg1;go_wp2;rw[Hba.out];generalize w1.alloc (.cells #[.slice none 0 0,.slice none 0 0,.slice none 0 0] 108)=wA at *;clear Hba;go_loopw [8,9,10,20] (fun _ _ _ i wr=>∃(j at_:Nat) (Ss:List (Option Addr×Nat×List Nat)),i=.int .i64 (j:Int)∧j≤3∧Hid (Ss.length=j)∧Hid (Row wr ba 108 (Xr n Ss (3-j)))∧Hid (Um wr n Ss)∧Hid (CR wr b (some (bs.drop (k+at_))))∧Hid (w.grownBy wr (some b)) ∧
  Hid (S3=(fV (3-j) (bs.drop (k+at_)) n).map fun q=>(Ss.map (fun s=>s.2.2)++q.1,at_+q.2))) (fun _ _ _ i _=>3-(intOf i).toNat)
 case atStart=>
  refine⟨0,0,[],rfl,by omega,hid rfl,Hra,hid (fun s hs=>by cases hs),Hc2,Hg2,hid ?_⟩;rw[Nat.add_zero,Nat.sub_zero,HS3.out];cases fV 3 (bs.drop k) n<;>simp
 case round=>
  obtain⟨j,at_,Ss,rfl,hj,hSl,hrow,hsl,hcr,hg,hstr⟩:=hrel;clear Hra Hc2 Hg2;by_cases hj3:j<3
  ·have dj:(j:Int)<3:=by omega
   have bB:=hid (Hun.out (k+at_) wr hcr.out);have oN:=hid hstr.out;obtain⟨d,hd⟩:∃d,3-j=d+1:=⟨3-j-1,by omega⟩;rw[hd,fV]at oN;have agb:=hid (fun l kk h=>abZ (bs.drop (k+at_)) n (Hlt.out _) l kk h);have hrow':=hrow.out;rw[hd]at hrow';have fZ:=hid hrow';have Hd:=hid (show 3-(j+1)=d by omega);have Vo:=hcr;clear hstr hcr hrow hrow' hd;cases hs:DJ (bs.drop (k+at_)) n with
   | none=>
    rw[hs]at oN bB;dsimp only at oN;have gT:Hid (res=none):=hid (by rw[dQ.out,oN.out];rfl);clear oN Hun Htx Hlt dQ agb hs hsl fZ Hd Vo;go_wp2_with fail
    refine bB.out.mono ?_;rintro e w4 ⟨⟨A,c,rfl⟩,hg4⟩;have Hg4:=hid (ay hg.out hg4);clear hg4 bB hg;go_wp2;go_ret2;rw[gT.out];exact⟨⟨_,_,rfl⟩,Hg4.out⟩
   | some t=>
    obtain⟨l,kk⟩:=t;rw[hs]at oN bB;dsimp only at oN;have hm:=agb.out l kk hs;have Hm:=hid hm;rw[List.drop_drop]at oN;clear agb hs;go_wp2_with fail
    refine bB.out.mono ?_;rintro e w4 ⟨⟨⟨A,c,rfl,hrd⟩,hc4⟩,hg4⟩;dsimp only at hrd hc4 ⊢;rw[List.drop_drop]at hc4;have hrow4:=fZ.out.keep (hg4.block ba fZ.out.lt (by simp;omega));have ajo:=hsl.out.ahk Vo.out (vX _) hg4;have hnA:Reads (w4.setCell ⟨ba,j,none⟩ (.slice A n c)) A (u8s l):=rE hrow4 (DC n (d+1) Ss) hrd (dV w4 ⟨ba,j,none⟩ (.slice A n c));have ajp:=ajo.ahk hrow4 (DC n (d+1) Ss) (dV w4 ⟨ba,j,none⟩ (.slice A n c));have hc5:CR (w4.setCell ⟨ba,j,none⟩ (.slice A n c)) b (some (bs.drop (k+at_+kk))):=hc4.keep (dV w4 ⟨ba,j,none⟩ (.slice A n c)) (by simp;omega);have aaG:=hrow4.aY j (.slice A n c);have hset:(Xr n Ss (d+1)).set j (.slice A n c)=Xr n (Ss++[(A,c,l)]) d:=by
     unfold Xr;rw[List.set_append_right _ _ (by rw[List.length_map,hSl.out];omega),List.length_map,hSl.out,Nat.sub_self,List.replicate_succ,List.set_cons_zero,List.map_append,List.append_assoc];rfl
    rw[hset]at aaG;have f0:=hrow4.free j;have hsome:∃u,w4.cell? ⟨ba,j,none⟩=some u:=by
     rw[hrow4.cell];unfold Xr;rw[List.getElem?_append_right (by rw[List.length_map,hSl.out];omega),List.length_map,hSl.out,Nat.sub_self];exact⟨_,rfl⟩
    obtain⟨u0,hu0⟩:=hsome;have hg5:w.grownBy (w4.setCell ⟨ba,j,none⟩ (.slice A n c)) (some b):=by
     have h1:=ay hg.out hg4;exact⟨h1.os,h1.tape,h1.output,by have:=h1.size;simpa [World.setCell]using this,fun i hi hne=>by
      rw[←h1.block i hi hne];exact Below.heap_setCell w4 ⟨ba,j,none⟩ _ i (by show i≠ba;omega)⟩
    have akq:Hid (Um (w4.setCell ⟨ba,j,none⟩ (.slice A n c)) n (Ss++[(A,c,l)])):=hid (fun s hs=>by
     rcases List.mem_append.1 hs with hs | hs
     ·exact ajp s hs
     ·rw[List.mem_singleton.1 hs];exact⟨Hm.out,hnA⟩)
    have agh:=hid aaG;have Hc5:=hid hc5;have Hg5:=hid hg5;have Hlen:Hid (l.length=n):=hid Hm.out.1;have hln:=Hlen.out;rw[hln];clear hrow4 ajo hnA ajp hc5 aaG hset hg5 hm hrd hc4 hg4 hsl hg fZ Hm bB hln Vo;go_wp2;go_roundw
    case rel=>
     refine⟨j+1,at_+kk,Ss++[(A,c,l)],by go_num,by omega,hid (by rw[List.length_append,hSl.out];rfl),by rw[Hd.out];exact agh,akq,by rw[←Nat.add_assoc];exact Hc5,Hg5,hid ?_⟩;rw[oN.out,Hd.out,←Nat.add_assoc];cases fV d (bs.drop (k+at_+kk)) n<;>simp[Nat.add_assoc]
    case measure=>simp[intOf];omega
  ·have aav:j=3:=by omega
   subst aav;obtain⟨s0,s1,s2,hS3⟩:∃s0 s1 s2,Ss=[s0,s1,s2]:=by
    match Ss,hSl.out with
    | [x,y,z],_=>exact⟨x,y,z,rfl⟩
   subst hS3;have oN:=hid hstr.out;rw[Nat.sub_self,fV,Option.map_some,List.append_nil,Nat.add_zero]at oN;have hrow2:Row wr ba 108 [.slice s0.1 n s0.2.1,.slice s1.1 n s1.2.1,.slice s2.1 n s2.2.1]:=hrow.out;obtain⟨x0,x1,x2⟩:=fQ hrow2;have bB:=hid (Htx.out (k+at_) wr hcr.out);have lM:=hid dQ.out;rw[oN.out]at lM;simp only[List.map_cons,List.map_nil]at lM;rw[List.drop_drop]at lM;have fZ:=hid hrow2;have Vo:=hcr;clear hstr hrow hrow2 dQ oN hSl Htx Hun hcr;cases htx:qz (bs.drop (k+at_))with
   | none=>
    have Hc2:=hid bB.out;rw[Bb _ htx]at Hc2;rw[htx]at lM;dsimp only at lM;clear htx bB Hlt hsl fZ;go_wp2_with fail
    refine Hc2.out.mono ?_;rintro e w4 ⟨rfl,hc4,hg4⟩;have Hb:=hid (aK b none w4 hc4);have Hg4:=hid (ay hg.out hg4);clear hc4 hg4 hg Hc2;go_wp2_with fail
    refine Hb.out.mono ?_;rintro e w5 ⟨rfl,rfl⟩;clear Hb;go_wp2;go_ret2;rw[lM.out];exact⟨⟨_,_,rfl⟩,Hg4.out⟩
   | some q=>
    obtain⟨bd,m⟩:=q;obtain⟨e1,hl1⟩:=Bc _ _ htx;have hm1:=GI _ _ htx (Hlt.out _);have Hc2:=hid bB.out;rw[e1]at Hc2;rw[htx]at lM;dsimp only at lM Hc2 hl1 hm1;rw[List.drop_drop]at Hc2;have jC:=hid (fun W=>bT W bd hm1);have Hst:=hid (fun W A c (h:Um W n [s0,s1,s2]) hr=>LK s0.1 s1.1 s2.1 A s0.2.1 s1.2.1 s2.2.1 c n s0.2.2 s1.2.2 s2.2.2 bd W hn (h s0 (by simp)).1 (h s1 (by simp)).1 (h s2 (by simp)).1 (h s0 (by simp)).2 (h s1 (by simp)).2 (h s2 (by simp)).2 hl1 hm1 hr);obtain⟨rr,hrr⟩:∃rr,rr=kg [s0.2.2,s1.2.2,s2.2.2] n bd:=⟨_,rfl⟩;rw[←hrr]at Hst lM;clear htx e1 bB Hlt hrr hm1;generalize agZ:strOf bd=sb at *;clear agZ;go_wp2_with fail
    refine Hc2.out.mono ?_;rintro e w4 ⟨rfl,hc4,hg4⟩;have Hb:=hid (aK b _ w4 hc4);have Hg4:=hid (ay hg.out hg4);have ahZ:=hid (hsl.out.ahk Vo.out (vX _) hg4);have hrow4:=fZ.out.keep (hg4.block ba fZ.out.lt (by simp;omega));obtain⟨y0,y1,y2⟩:=fQ hrow4;have Hc4:=hid hc4;clear hc4 hg4 hg Hc2 hsl Vo fZ hrow4 x0 x1 x2;go_wp2_with fail
    refine Hb.out.mono ?_;rintro e w5 ⟨rfl,rfl⟩;obtain⟨w6,cap,dh,hcell,hb6⟩:=jC.out w4;have hrs:Reads w6 (some ⟨w4.heap.size,0,none⟩) (u8s bd):=fun _=>⟨_,_,rfl,fun j hj=>by
     rw[aO]at hj;rw[Nat.zero_add,hcell j hj,bD bd j hj]⟩
    have ZA:=hid (Hst.out w6 _ cap (ahZ.out.below hb6) hrs);have Hg6:=hid (ay Hg4.out (aj hb6 _));have Hc6:=hid (Hc4.out.below hb6);clear Hb hcell hb6 hrs Hst ahZ Hg4 Hc4 jC;go_wp2_with fail
    refine ZA.out.mono ?_;rintro e w7 ⟨hsp,hb7⟩;have Hg7:=hid (ay Hg6.out (aj hb7 _));have Hc7:=hid (Hc6.out.below hb7);clear hb7 ZA Hg6 Hc6 dh y0 y1 y2;cases rr with
    | none=>
     obtain⟨A,c,rfl⟩:=hsp;go_wp2;go_ret2;rw[lM.out];exact⟨⟨_,_,rfl⟩,Hg7.out⟩
    | some l=>
     obtain⟨A,c,rfl,hrd⟩:=hsp;have Hrd:=hid hrd;clear hrd;go_wp2;go_ret2;rw[lM.out];exact⟨⟨⟨_,_,rfl,Hrd.out⟩,Hc7.out⟩,Hg7.out⟩
theorem WG(b:Nat)(bs:List Nat)(most:Int)(w:World)(h0:-9223372036854775808≤most)(h1:most≤9223372036854775807)(hl:bs.length≤100000000)(hlt:∀x∈bs,x<256)(h:CR w b (some bs)) :
  Calls prog 73 #[.pointer (some ⟨b,0,none⟩),.int .i64 most] w fun e w'=>afA w' b bs e (qG bs most)∧w.grownBy w' (some b):=by
 have hint:=nk b (some bs) (min most 1000) w (by omega) (by omega) ⟨hlt,hl⟩ h;by_cases hc:0<(au bs).2∧((au bs).1:Int)≤min most 1000
 ·rw[mo _ bs hc.1 hc.2]at hint;dsimp only at hint;by_cases hz:(au bs).1=0
  ·rw[Xm bs most hc hz];rw[hz]at hint;exact Rs b _ bs most w hint
  ·rw[Xj bs most hc hz];exact Rq b _ _ bs most w (by omega) (by omega) hl hlt hint
 ·rw[yI _ bs hc]at hint;rw[afb bs most hc];exact abE b bs most w hint
end Go.Proofs.YtgiicohbigiapaaGreat
