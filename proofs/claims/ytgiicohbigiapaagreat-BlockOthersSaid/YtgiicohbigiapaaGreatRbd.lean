/- Contracts, and what they rest on. Conditions: the theorems' premises. -/
import Derived.Test.YtgiicohbigiapaaGreatRaz
import Derived.Test.YtgiicohbigiapaaGreatRag
set_option maxHeartbeats 4000000
set_option maxRecDepth 100000
open Go.Lib(hid)
open Go.Proofs.Tryz Go.Proofs.YtgiicohbigiapaaGreat.Bm
namespace Go.Proofs.YtgiicohbigiapaaGreat
open Go.RowKit
def ZM(w':World)(b:Nat)(bs:List Nat)(e:Ending):Option (List Nat×Nat)→Prop
 | none=>∃A c,e=.returned (.tuple #[.slice A 0 c,.bool false])
 | some t=>(∃A c,e=.returned (.tuple #[.slice A t.1.length c,.bool true])∧Reads w' A (u8s t.1))∧CR w' b (some (bs.drop t.2))
theorem JI(b n:Nat)(t:List Nat)(st:Left)(s1 s2:ByteArray)(w:World)
  (h1:Calls prog 112 #[.pointer (some ⟨b,0,none⟩),.int .i64 4096] w fun e w'=>e=.returned (.string s1)∧CR w' b st∧w.grownBy w' (some b))
  (h2:∀W,CR W b st→Calls prog 112 #[.pointer (some ⟨b,0,none⟩),.int .i64 4096] W fun e W'=>e=.returned (.string s2)∧CR W' b none∧W.grownBy W' (some b)) :
  Calls prog 182 #[.pointer (some ⟨b,0,none⟩),.int .i64 (n:Int)] w fun e w'=>ZM w' b t e none∧w.grownBy w' (some b):=by
 have H1:=hid h1;have H2:=hid h2;clear h1 h2;go_enter func182,ntmps182
 go_wp2_with fail
 refine H1.out.mono ?_;rintro e w1 ⟨rfl,hc1,hg1⟩;have H3:=hid (H2.out w1 hc1);have Hg1:=hid hg1;clear hc1 hg1 H1 H2;go_wp2_with fail
 refine H3.out.mono ?_;rintro e w2 ⟨rfl,hc2,hg2⟩;have Hb:=hid (aK b none w2 hc2);have Hg2:=hid (aA Hg1.out hg2);clear hc2 hg2 Hg1 H3;go_wp2_with fail
 refine Hb.out.mono ?_;rintro e w3 ⟨rfl,rfl⟩;clear Hb;go_wp2;go_ret2;exact⟨⟨_,_,rfl⟩,Hg2.out⟩
theorem Xp(b n:Nat)(t:List Nat)(w:World)(ht:t.length≤100000000)(hlt:∀x∈t,x<256)(h:CR w b (some t)) :
  Calls prog 182 #[.pointer (some ⟨b,0,none⟩),.int .i64 (n:Int)] w fun e w'=>ZM w' b t e (fD t n)∧w.grownBy w' (some b):=by
 have h1:=mO b (some t) 4096 w (by omega) (by omega) ⟨hlt,ht⟩ h;unfold fD;cases hp:qH t with
 | none=>
  rw[Bz t hp]at h1;exact JI b n t none _ (strOf []) w h1 (fun W hc=>mO b none 4096 W (by omega) (by omega) trivial hc)
 | some p=>
  obtain⟨hd,k⟩:=p;obtain⟨e1,hl1⟩:=BA t _ hp;have hm1:=Ia t _ hp hlt;rw[e1]at h1;dsimp only at h1 hl1 hm1 ⊢;have hdl:(t.drop k).length≤100000000:=by rw[List.length_drop];omega
  have hdt:∀x∈t.drop k,x<256:=bZ hlt k;have h2:=fun W (hc:CR W b (some (t.drop k)))=>mO b (some (t.drop k)) 4096 W (by omega) (by omega) ⟨hdt,hdl⟩ hc
  cases hq:qH (t.drop k)with
  | none=>
   rw[Bz _ hq]at h2;exact JI b n t _ _ _ w h1 h2
  | some q=>
   obtain⟨bd,m⟩:=q;obtain⟨e2,hl2⟩:=BA _ _ hq;have hm2:=Ia _ _ hq hdt;rw[e2]at h2;dsimp only at h2 hl2 hm2 ⊢;rw[List.drop_drop]at h2;have H1:=hid h1;have H2:=hid h2;have YZ:=hid (fun W=>Xv hd W hl1 hm1);have hfair:=Lp hd;obtain⟨r,hr⟩:∃r,r=Bm.headD hd:=⟨_,rfl⟩;rw[←hr]at YZ hfair ⊢;have jH:=hid (fun W=>bU W bd hm2);clear hr h1 h2 e1 e2 hp hq hdl hdt hm1;cases r with
   | none=>
    dsimp only;clear hfair jH;generalize strOf hd=s1 at *;generalize strOf bd=s2 at *;go_enter func182,ntmps182
    go_wp2_with fail
    refine H1.out.mono ?_;rintro e w1 ⟨rfl,hc1,hg1⟩;have H3:=hid (H2.out w1 hc1);have Hg1:=hid hg1;clear hc1 hg1 H1 H2;go_wp2_with fail
    refine H3.out.mono ?_;rintro e w2 ⟨rfl,hc2,hg2⟩;have Hb:=hid (aK b _ w2 hc2);have Hg2:=hid (aA Hg1.out hg2);clear hc2 hg2 Hg1 H3;go_wp2_with fail
    refine Hb.out.mono ?_;rintro e w3 ⟨rfl,rfl⟩;have Ht2:=hid (YZ.out w2);clear Hb YZ;go_wp2_with fail
    refine Ht2.out.mono ?_;rintro e w4 ⟨rfl,hb4⟩;have Hg4:=hid (aA Hg2.out (ak hb4 _));clear hb4 Ht2 Hg2;go_wp2;go_ret2;exact⟨⟨_,_,rfl⟩,Hg4.out⟩
   | some tb=>
    obtain⟨ls,lg⟩:=tb;have hf:=hfair _ rfl;dsimp only at hf ⊢;have UD:Hid (∀W p A c,qM W p ls lg→Reads W A (u8s bd)→Calls prog 211 #[.pointer (some p),.slice A bd.length c,.int .i64 (n:Int)] W fun e w'=>uP w' e (Ak ls lg bd (n:Int))∧Below W.heap.size W w'):=hid (fun W p A c hst hrd=>Vx W p ls lg A c bd (n:Int) hf hst (by omega) hm2 hrd);clear hfair hf;obtain⟨rr,hrr⟩:∃rr,rr=Ak ls lg bd (n:Int):=⟨_,rfl⟩;rw[←hrr]at UD ⊢;clear hrr;generalize strOf hd=s1 at *;have hx:=jH.out;clear jH;generalize strOf bd=s2 at *;have jH:=hid hx;clear hx;go_enter func182,ntmps182
    go_wp2_with fail
    refine H1.out.mono ?_;rintro e w1 ⟨rfl,hc1,hg1⟩;have H3:=hid (H2.out w1 hc1);have Hg1:=hid hg1;clear hc1 hg1 H1 H2;go_wp2_with fail
    refine H3.out.mono ?_;rintro e w2 ⟨rfl,hc2,hg2⟩;have Hb:=hid (aK b _ w2 hc2);have Hg2:=hid (aA Hg1.out hg2);have Hc2:=hid hc2;clear hc2 hg2 Hg1 H3;go_wp2_with fail
    refine Hb.out.mono ?_;rintro e w3 ⟨rfl,rfl⟩;have Ht2:=hid (YZ.out w2);clear Hb YZ;go_wp2_with fail
    refine Ht2.out.mono ?_;rintro e w4 ⟨⟨p,rfl,hst⟩,hb4⟩;have Hg4:=hid (aA Hg2.out (ak hb4 _));have Hc4:=hid (Hc2.out.below hb4);obtain⟨w5,cap,bO,hcell,hb5⟩:=jH.out w4;have hrs:Reads w5 (some ⟨w4.heap.size,0,none⟩) (u8s bd):=fun _=>⟨_,_,rfl,fun j hj=>by
     rw[aO]at hj;rw[Nat.zero_add,hcell j hj,bD bd j hj]⟩
    have Hd5:=hid (UD.out w5 p _ cap (bY _ _ _ _ _ hst hb5) hrs);have Hg5:=hid (aA Hg4.out (ak hb5 _));have Hc5:=hid (Hc4.out.below hb5);clear hst hb4 hcell hrs hb5 Ht2 Hg2 Hc2 Hg4 Hc4 UD jH;go_wp2_with fail
    refine Hd5.out.mono ?_;rintro e w6 ⟨hbp,hb6⟩;have Hg6:=hid (aA Hg5.out (ak hb6 _));have Hc6:=hid (Hc5.out.below hb6);clear Hd5 hb6 Hg5 Hc5 bO;cases rr with
    | none=>
     obtain⟨A,c,rfl⟩:=hbp;go_wp2;go_ret2;exact⟨⟨_,_,rfl⟩,Hg6.out⟩
    | some l=>
     obtain⟨A,c,rfl,hrd⟩:=hbp;have Hrd:=hid hrd;clear hrd;go_wp2;go_ret2;exact⟨⟨⟨_,_,rfl,Hrd.out⟩,Hc6.out⟩,Hg6.out⟩
theorem Sc(b n:Nat)(bs:List Nat)(w:World)(hl:bs.length≤100000000)(hlt:∀x∈bs,x<256)(h1:1≤n)(hn:n≤4096)(h:CR w b (some bs)) :
  Calls prog 146 #[.pointer (some ⟨b,0,none⟩),.int .i64 (n:Int)] w fun e w'=>ZM w' b bs e (nV bs n)∧w.grownBy w' (some b):=by
 have hfx:=kE b (some bs) 1 w (by omega) (by omega) ⟨hlt,hl⟩ h;cases bs with
 | nil=>
  have e1:gW (fx 1) (some [])=([],none):=rfl;rw[e1]at hfx;have Hfx:=hid hfx;clear hfx h hlt e1;show Calls prog 146 #[.pointer (some ⟨b,0,none⟩),.int .i64 (n:Int)] w fun e w'=>ZM w' b [] e none∧w.grownBy w' (some b)
  generalize hv:(aS ([],(none:Left)).1)=v at *;go_enter func146,ntmps146
  go_wp2_with fail
  refine Hfx.out.mono ?_;rintro e w1 ⟨rfl,hc1,hg1⟩;have Hb:=hid (aK b _ w1 hc1);have Hg1:=hid hg1;clear hc1 hg1 Hfx;go_wp2_with fail
  refine Hb.out.mono ?_;rintro e w3 ⟨rfl,rfl⟩;clear Hb;go_wp2;go_ret2;exact⟨⟨_,_,rfl⟩,Hg1.out⟩
 | cons k t=>
  rw[uH k t]at hfx;have hk:=hlt k List.mem_cons_self;have htl:t.length≤100000000:=by rw[List.length_cons]at hl;omega
  have htt:∀x∈t,x<256:=fun x hx=>hlt x (List.mem_cons_of_mem _ hx)
  have hv:aS ([k],some t).1=k:=by simp[aS]
  rw[hv]at hfx;have Hfx:=hid hfx;have hdrop:∀m,(k :: t).drop (1+m)=t.drop m:=fun m=>by rw[Nat.add_comm,List.drop_succ_cons]
  clear hfx h hlt hl hv;have uf:=hid (fun W (hc:CR W b (some t))=>aK b (some t) W hc);by_cases hk0:k=0
  ·subst hk0;rw[DL];have fO:=hid (fun W (hc:CR W b (some t))=>fZ b (some t) (n:Int) W hc);rw[Int.toNat_natCast]at fO;by_cases hc:n≤t.length
   ·rw[if_pos hc];rw[wP n t hc]at fO;have hln:(t.take n).length=n:=by rw[List.length_take];omega
    have jH:=hid (fun W=>bU W (t.take n) (gQ htt n));have Hdr:=hid (hdrop n);dsimp only at fO;unfold ZM;dsimp only;rw[Hdr.out];clear Hdr hdrop htt hc;generalize t.take n=tn at *;generalize t.drop n=td at *;generalize hstr:strOf tn=st at *;clear hstr;go_enter func146,ntmps146
    go_wp2_with fail
    refine Hfx.out.mono ?_;rintro e w1 ⟨rfl,hc1,hg1⟩;have Hb:=hid (uf.out w1 hc1);have Hr1:=hid (fO.out w1 hc1);have Hg1:=hid hg1;clear hc1 hg1 Hfx uf fO;go_wp2_with fail
    refine Hb.out.mono ?_;rintro e w3 ⟨rfl,rfl⟩;clear Hb;go_wp2_with fail
    refine Hr1.out.mono ?_;rintro e w2 ⟨rfl,hc2,hg2⟩;obtain⟨w5,cap,bO,hcell,hb5⟩:=jH.out w2;have Hrs:Hid (Reads w5 (some ⟨w2.heap.size,0,none⟩) (u8s tn)):=hid (fun _=>⟨_,_,rfl,fun j hj=>by
     rw[aO]at hj;rw[Nat.zero_add,hcell j hj,bD tn j hj]⟩)
    have Hg5:=hid (aA (aA Hg1.out hg2) (ak hb5 _));have hc5:=hc2.below hb5;have Hb5:=hid (aK b _ w5 hc5);have Hc5:=hid hc5;clear hg2 hcell hb5 hc2 Hg1 jH hc5 Hr1;go_wp2_with fail
    refine Hb5.out.mono ?_;rintro e w6 ⟨rfl,rfl⟩;clear bO Hb5;go_wp2;go_ret2;refine⟨⟨⟨some ⟨w2.heap.size,0,none⟩,cap,?_,Hrs.out⟩,Hc5.out⟩,Hg5.out⟩;rw[hln];rfl
   ·rw[if_neg hc];rw[DJ n t hc]at fO;have jH:=hid (fun W=>bU W [] (by simp));dsimp only at fO;clear hdrop htt hc;generalize hstr:strOf []=st at *;clear hstr;go_enter func146,ntmps146
    go_wp2_with fail
    refine Hfx.out.mono ?_;rintro e w1 ⟨rfl,hc1,hg1⟩;have Hb:=hid (uf.out w1 hc1);have Hr1:=hid (fO.out w1 hc1);have Hg1:=hid hg1;clear hc1 hg1 Hfx uf fO;go_wp2_with fail
    refine Hb.out.mono ?_;rintro e w3 ⟨rfl,rfl⟩;clear Hb;go_wp2_with fail
    refine Hr1.out.mono ?_;rintro e w2 ⟨rfl,hc2,hg2⟩;obtain⟨w5,cap,bO,hcell,hb5⟩:=jH.out w2;have Hg5:=hid (aA (aA Hg1.out hg2) (ak hb5 _));have Hb5:=hid (aK b _ w5 (hc2.below hb5));clear hg2 hcell hb5 hc2 Hg1 jH Hr1;go_wp2_with fail
    refine Hb5.out.mono ?_;rintro e w6 ⟨rfl,rfl⟩;clear bO Hb5;go_wp2;go_ret2;exact⟨⟨_,_,rfl⟩,Hg5.out⟩
  ·by_cases hk1:k=1
   ·subst hk1;rw[DN];have fO:=hid (fun W (hc:CR W b (some t))=>fZ b (some t) 1 W hc);cases t with
    | nil=>
     have e1:gW (1:Int).toNat (some ([]:List Nat))=([],none):=rfl;rw[e1]at fO;rw[if_neg (by simp)];have jH:=hid (fun W=>bU W [] (by simp));have Hrep:=hid (fun A c W=>Xq A c n W h1 hn);dsimp only at fO;clear hdrop htt e1 hk0;generalize hstr:strOf []=st at *;clear hstr;go_enter func146,ntmps146
     go_wp2_with fail
     refine Hfx.out.mono ?_;rintro e w1 ⟨rfl,hc1,hg1⟩;have Hb:=hid (uf.out w1 hc1);have Hr1:=hid (fO.out w1 hc1);have Hg1:=hid hg1;clear hc1 hg1 Hfx uf fO;go_wp2_with fail
     refine Hb.out.mono ?_;rintro e w3 ⟨rfl,rfl⟩;clear Hb;go_wp2_with fail
     refine Hr1.out.mono ?_;rintro e w2 ⟨rfl,hc2,hg2⟩;obtain⟨w5,cap,bO,hcell,hb5⟩:=jH.out w2;have Hg5:=hid (aA (aA Hg1.out hg2) (ak hb5 _));have Hc5:=hid (hc2.below hb5);have Hr5:=hid (Hrep.out (some ⟨w2.heap.size,0,none⟩) cap w5);clear hg2 hcell hb5 hc2 Hg1 jH Hr1 Hrep;go_wp2_with fail
     refine Hr5.out.mono ?_;rintro e w6 ⟨⟨A6,c6,rfl⟩,hb6⟩;have Hg6:=hid (aA Hg5.out (ak hb6 _));have Hb6:=hid (aK b _ w6 (Hc5.out.below hb6));clear hb6 Hg5 Hc5 Hr5 bO;go_wp2_with fail
     refine Hb6.out.mono ?_;rintro e w7 ⟨rfl,rfl⟩;clear Hb6;go_wp2;go_ret2;exact⟨⟨_,_,rfl⟩,Hg6.out⟩
    | cons x t=>
     have e1:gW (1:Int).toNat (some (x :: t))=([x],some t):=rfl;have hx:=htt x List.mem_cons_self;rw[e1]at fO;rw[if_pos (by simp)];simp only[List.getElem?_cons_zero,Option.getD_some];have jH:=hid (fun W=>bU W [x] (by simpa using hx));have Hrep:=hid (fun A c W hr=>Xr A c x n W hx h1 hn hr);dsimp only at fO;have Hdr:Hid ((1 :: x :: t).drop 2=t):=hid rfl;unfold ZM;dsimp only;rw[Hdr.out,List.length_replicate];clear hdrop htt e1 hk0 Hdr;generalize hstr:strOf [x]=st at *;clear hstr;go_enter func146,ntmps146
     go_wp2_with fail
     refine Hfx.out.mono ?_;rintro e w1 ⟨rfl,hc1,hg1⟩;have Hb:=hid (uf.out w1 hc1);have Hr1:=hid (fO.out w1 hc1);have Hg1:=hid hg1;clear hc1 hg1 Hfx uf fO;go_wp2_with fail
     refine Hb.out.mono ?_;rintro e w3 ⟨rfl,rfl⟩;clear Hb;go_wp2_with fail
     refine Hr1.out.mono ?_;rintro e w2 ⟨rfl,hc2,hg2⟩;obtain⟨w5,cap,bO,hcell,hb5⟩:=jH.out w2;have hrs:Reads w5 (some ⟨w2.heap.size,0,none⟩) (u8s [x]):=fun _=>⟨_,_,rfl,fun j hj=>by
      rw[aO]at hj;rw[Nat.zero_add,hcell j hj,bD [x] j hj]⟩
     have Hg5:=hid (aA (aA Hg1.out hg2) (ak hb5 _));have Hc5:=hid (hc2.below hb5);have Hr5:=hid (Hrep.out (some ⟨w2.heap.size,0,none⟩) cap w5 hrs);clear hg2 hcell hb5 hc2 Hg1 jH Hr1 Hrep hrs;go_wp2_with fail
     refine Hr5.out.mono ?_;rintro e w6 ⟨⟨A6,c6,rfl,ajS⟩,hb6⟩;have Hg6:=hid (aA Hg5.out (ak hb6 _));have hc6:=Hc5.out.below hb6;have Hb6:=hid (aK b _ w6 hc6);have Hc6:=hid hc6;have akZ:=hid ajS;clear hb6 Hg5 Hc5 Hr5 bO hc6 ajS;go_wp2_with fail
     refine Hb6.out.mono ?_;rintro e w7 ⟨rfl,rfl⟩;clear Hb6;go_wp2;go_ret2;exact⟨⟨⟨_,_,rfl,akZ.out⟩,Hc6.out⟩,Hg6.out⟩
   ·by_cases hk2:k=2
    ·subst hk2;rw[DR];have EA:=hid (fun W (hc:CR W b (some t))=>Xp b n t W htl htt hc);generalize fD t n=r at *;clear htt hk0 hk1 htl;go_enter func146,ntmps146
     go_wp2_with fail
     refine Hfx.out.mono ?_;rintro e w1 ⟨rfl,hc1,hg1⟩;have Hb:=hid (uf.out w1 hc1);have Hr1:=hid (EA.out w1 hc1);have Hg1:=hid hg1;clear hc1 hg1 Hfx uf EA;go_wp2_with fail
     refine Hb.out.mono ?_;rintro e w3 ⟨rfl,rfl⟩;clear Hb;go_wp2_with fail
     refine Hr1.out.mono ?_;rintro e w2 ⟨hcp,hg2⟩;have Hg2:=hid (aA Hg1.out hg2);clear hg2 Hg1 Hr1;cases r with
     | none=>
      obtain⟨A,c,rfl⟩:=hcp;go_wp2;go_ret2;exact⟨⟨_,_,rfl⟩,Hg2.out⟩
     | some q=>
      obtain⟨⟨A,c,rfl,hrd⟩,hc2⟩:=hcp;have Hrd:=hid hrd;have Hc2:=hid hc2;clear hrd hc2;go_wp2;go_ret2;exact⟨⟨⟨_,_,rfl,Hrd.out⟩,by show CR w2 b (some ((2 :: t).drop (1+q.2)));rw[hdrop];exact Hc2.out⟩,Hg2.out⟩
    ·rw[JM k t n (by omega)];have d0:((k:Int) == 0)=false:=by rw[beq_eq_false_iff_ne];omega
     have d1:((k:Int) == 1)=false:=by rw[beq_eq_false_iff_ne];omega
     have d2:((k:Int) == 2)=false:=by rw[beq_eq_false_iff_ne];omega
     clear hk0 hk1 hk2 hdrop htt;go_enter func146,ntmps146
     go_wp2_with fail
     refine Hfx.out.mono ?_;rintro e w1 ⟨rfl,hc1,hg1⟩;have Hb:=hid (uf.out w1 hc1);have Hg1:=hid hg1;clear hc1 hg1 Hfx uf;go_wp2_with fail
     refine Hb.out.mono ?_;rintro e w3 ⟨rfl,rfl⟩;clear Hb;go_wp2;go_ret2;exact⟨⟨_,_,rfl⟩,Hg1.out⟩
theorem Ml(b n:Nat)(bs:List Nat)(w:World)(hl:bs.length≤100000000)(hlt:∀x∈bs,x<256)(h1:1≤n)(hn:n≤4096)(h:CR w b (some bs)) :
  Calls prog 111 #[.pointer (some ⟨b,0,none⟩),.int .i64 (n:Int)] w fun e w'=>ZM w' b bs e (Ed bs n)∧w.grownBy w' (some b):=by
 have Hrd:=hid (Sc b n bs w hl hlt h1 hn h);have d0:decide ((n:Int)<0)=false:=decide_eq_false (by omega);have d1:decide ((4096:Int)<(n:Int))=false:=decide_eq_false (by omega);have hmem:=JN bs n hlt;unfold Ed;generalize nV bs n=r at *;clear hlt h;cases r with
 | none=>
  dsimp only;go_enter func111,ntmps111
  go_wp2_with fail
  refine Hrd.out.mono ?_;rintro e w1 ⟨⟨A,c,rfl⟩,hg1⟩;have Hg1:=hid hg1;clear hg1 Hrd;go_wp2;go_ret2;exact⟨⟨_,_,rfl⟩,Hg1.out⟩
 | some q=>
  obtain⟨l,k⟩:=q;dsimp only;obtain⟨hl2,hlt2⟩:=hmem l k rfl;have Hok:=hid (fun A c W hr=>Mj A c l W (by omega) hlt2 hr);clear hl2;by_cases h28:∀x∈l,x<28
  ·rw[if_pos h28];rw[decide_eq_true h28]at Hok;clear h28 hlt2 hmem;go_enter func111,ntmps111
   go_wp2_with fail
   refine Hrd.out.mono ?_;rintro e w1 ⟨⟨⟨A,c,rfl,hrd⟩,hc1⟩,hg1⟩;have Hg1:=hid hg1;have aee:=hid (Hok.out A c w1 hrd);have YV:=hid hrd;have Hc1:=hid hc1;clear hg1 Hrd hrd hc1 Hok;go_wp2_with fail
   refine aee.out.mono ?_;rintro e w2 ⟨rfl,rfl⟩;clear aee;go_wp2;go_ret2;exact⟨⟨⟨_,_,rfl,YV.out⟩,Hc1.out⟩,Hg1.out⟩
  ·rw[if_neg h28];rw[decide_eq_false h28]at Hok;clear h28 hlt2 hmem;go_enter func111,ntmps111
   go_wp2_with fail
   refine Hrd.out.mono ?_;rintro e w1 ⟨⟨⟨A,c,rfl,hrd⟩,hc1⟩,hg1⟩;have Hg1:=hid hg1;have aee:=hid (Hok.out A c w1 hrd);clear hg1 Hrd hrd hc1 Hok;go_wp2_with fail
   refine aee.out.mono ?_;rintro e w2 ⟨rfl,rfl⟩;clear aee;go_wp2;go_ret2;exact⟨⟨_,_,rfl⟩,Hg1.out⟩
end Go.Proofs.YtgiicohbigiapaaGreat
