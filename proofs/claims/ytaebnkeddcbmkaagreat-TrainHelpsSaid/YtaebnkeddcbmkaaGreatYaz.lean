/- Contracts, and what they rest on. Conditions: the theorems' premises. -/
import Derived.Test.YtaebnkeddcbmkaaGreatYay
set_option maxHeartbeats 4000000
set_option maxRecDepth 100000
open Go.Lib(hid)
open Go.Proofs.Tryz Go.Proofs.YtaebnkeddcbmkaaGreat.Bm
namespace Go.Proofs.YtaebnkeddcbmkaaGreat
open Go.RowKit
theorem acK(n:Nat)(t:List Nat):eG 0 n t=if n<=t.length then some (t.take n,n)else none:=by
 unfold eG;rw[if_pos rfl]
theorem acL(n:Nat)(t:List Nat):eG 1 n t=if 0<t.length then some (List.replicate n (t[0]?.getD 0),1)else none:=by
 unfold eG;rw[if_neg (by decide),if_pos rfl]
theorem ait(k n:Nat)(t:List Nat)(h:2<k):eG k n t=none:=by
 unfold eG;rw[if_neg (by omega),if_neg (by omega),if_neg (by omega)]
theorem EN(b:Nat)(k:Int)(st:Left)(most:Int)(w:World)
  (hfx:Calls prog 39 #[.pointer (some ⟨b,0,none⟩),.int .i64 1] w fun e w'=>e=.returned (.int .u64 k)/\CR w' b st/\w.grownBy w' (some b))
  (hint:∀W,CR W b st->Calls prog 40 #[.pointer (some ⟨b,0,none⟩),.int .i64 (min most 1048576)] W fun e W'=>e=.returned (.int .i64 0)/\CR W' b none/\W.grownBy W' (some b)) :
  Calls prog 75 #[.pointer (some ⟨b,0,none⟩),.int .i64 most] w fun e w'=>e=.returned (.tuple #[.string (strOf []),.bool false])/\w.grownBy w' (some b):=by
 have Hfx:=hid hfx;have Hint:=hid hint;clear hfx hint;go_enter func75,ntmps75
 go_wp2_with fail
 refine Hfx.out.mono ?_;rintro e w1 ⟨rfl,sV,hg1⟩;have Hg1:=hid hg1;have Hi1:=hid (Hint.out w1 sV);clear sV hg1 Hfx Hint;go_wp2_with fail
 refine Hi1.out.mono ?_;rintro e w2 ⟨rfl,jX,hg2⟩;have Hg2:=hid (ay Hg1.out hg2);have vW:=hid jX;have Hb2:=hid (aK b _ w2 jX);clear jX hg2 Hg1 Hi1;go_wp2_with fail
 refine Hb2.out.mono ?_;rintro e w3 ⟨rfl,rfl⟩;clear Hb2;clear vW;go_wp2;go_ret2;exact⟨rfl,Hg2.out⟩
theorem aaf(b n:Nat)(t r:List Nat)(most:Int)(w:World)(hn:n<=t.length)
  (hfx:Calls prog 39 #[.pointer (some ⟨b,0,none⟩),.int .i64 1] w fun e w'=>e=.returned (.int .u64 0)/\CR w' b (some r)/\w.grownBy w' (some b))
  (hint:∀W,CR W b (some r)->Calls prog 40 #[.pointer (some ⟨b,0,none⟩),.int .i64 (min most 1048576)] W fun e W'=>e=.returned (.int .i64 (n:Int))/\CR W' b (some t)/\W.grownBy W' (some b)) :
  Calls prog 75 #[.pointer (some ⟨b,0,none⟩),.int .i64 most] w fun e w'=>MZ w' b t e (eG 0 n t)/\w.grownBy w' (some b):=by
 have Hfx:=hid hfx;have Hint:=hid hint;clear hfx hint;have fT:=hid (fun W (h:CR W b (some t))=>gD b (some t) (n:Int) W h);rw[Int.toNat_natCast,xW n t hn]at fT;have ze:=hid ((acK n t).trans (if_pos hn));clear hn;go_enter func75,ntmps75
 go_wp2_with fail
 refine Hfx.out.mono ?_;rintro e w1 ⟨rfl,sV,hg1⟩;have Hg1:=hid hg1;have Hi1:=hid (Hint.out w1 sV);clear sV hg1 Hfx Hint;go_wp2_with fail
 refine Hi1.out.mono ?_;rintro e w2 ⟨rfl,jX,hg2⟩;have Hg2:=hid (ay Hg1.out hg2);have vW:=hid jX;have Hb2:=hid (aK b _ w2 jX);clear jX hg2 Hg1 Hi1;go_wp2_with fail
 refine Hb2.out.mono ?_;rintro e w3 ⟨rfl,rfl⟩;clear Hb2;have Hr:=hid (fT.out w2 vW.out);clear vW fT;go_wp2_with fail
 refine Hr.out.mono ?_;rintro e w4 ⟨rfl,Io,hg4⟩;have Hg4:=hid (ay Hg2.out hg4);have XI:=hid Io;have Hb4:=hid (aK b _ w4 Io);clear Io hg4 Hg2 Hr;generalize hs:strOf (t.take n)=sT at *;have Hs:=hid hs;clear hs;go_wp2_with fail
 refine Hb4.out.mono ?_;rintro e w5 ⟨rfl,rfl⟩;clear Hb4;go_wp2;go_ret2;rw[ze.out,<-Hs.out];exact⟨⟨rfl,XI.out⟩,Hg4.out⟩
theorem aae(b n:Nat)(t r:List Nat)(most:Int)(w:World)(hn:¬n<=t.length)
  (hfx:Calls prog 39 #[.pointer (some ⟨b,0,none⟩),.int .i64 1] w fun e w'=>e=.returned (.int .u64 0)/\CR w' b (some r)/\w.grownBy w' (some b))
  (hint:∀W,CR W b (some r)->Calls prog 40 #[.pointer (some ⟨b,0,none⟩),.int .i64 (min most 1048576)] W fun e W'=>e=.returned (.int .i64 (n:Int))/\CR W' b (some t)/\W.grownBy W' (some b)) :
  Calls prog 75 #[.pointer (some ⟨b,0,none⟩),.int .i64 most] w fun e w'=>MZ w' b t e (eG 0 n t)/\w.grownBy w' (some b):=by
 have Hfx:=hid hfx;have Hint:=hid hint;clear hfx hint;have fT:=hid (fun W (h:CR W b (some t))=>gD b (some t) (n:Int) W h);rw[Int.toNat_natCast,Fp n t hn]at fT;have ze:=hid ((acK n t).trans (if_neg hn));clear hn;go_enter func75,ntmps75
 go_wp2_with fail
 refine Hfx.out.mono ?_;rintro e w1 ⟨rfl,sV,hg1⟩;have Hg1:=hid hg1;have Hi1:=hid (Hint.out w1 sV);clear sV hg1 Hfx Hint;go_wp2_with fail
 refine Hi1.out.mono ?_;rintro e w2 ⟨rfl,jX,hg2⟩;have Hg2:=hid (ay Hg1.out hg2);have vW:=hid jX;have Hb2:=hid (aK b _ w2 jX);clear jX hg2 Hg1 Hi1;go_wp2_with fail
 refine Hb2.out.mono ?_;rintro e w3 ⟨rfl,rfl⟩;clear Hb2;have Hr:=hid (fT.out w2 vW.out);clear vW fT;go_wp2_with fail
 refine Hr.out.mono ?_;rintro e w4 ⟨rfl,Io,hg4⟩;have Hg4:=hid (ay Hg2.out hg4);have XI:=hid Io;have Hb4:=hid (aK b _ w4 Io);clear Io hg4 Hg2 Hr;go_wp2_with fail
 refine Hb4.out.mono ?_;rintro e w5 ⟨rfl,rfl⟩;clear Hb4;go_wp2;go_ret2;rw[ze.out];exact⟨rfl,Hg4.out⟩
theorem aah(b x n:Nat)(t r:List Nat)(most:Int)(w:World)(hn:n<=1048576)(u:List Nat)(ht:t=x :: u)
  (hfx:Calls prog 39 #[.pointer (some ⟨b,0,none⟩),.int .i64 1] w fun e w'=>e=.returned (.int .u64 1)/\CR w' b (some r)/\w.grownBy w' (some b))
  (hint:∀W,CR W b (some r)->Calls prog 40 #[.pointer (some ⟨b,0,none⟩),.int .i64 (min most 1048576)] W fun e W'=>e=.returned (.int .i64 (n:Int))/\CR W' b (some t)/\W.grownBy W' (some b)) :
  Calls prog 75 #[.pointer (some ⟨b,0,none⟩),.int .i64 most] w fun e w'=>MZ w' b t e (eG 1 n t)/\w.grownBy w' (some b):=by
 have Hfx:=hid hfx;have Hint:=hid hint;clear hfx hint;have fT:=hid (fun W (h:CR W b (some t))=>gD b (some t) 1 W h);rw[show(1:Int).toNat=1 from rfl,xW 1 t (by rw[ht];simp)]at fT;have ze:=hid ((acL n t).trans (if_pos (by rw[ht];simp)));have e1:t.take 1=[x]:=by rw[ht];rfl
 have e2:t[0]?.getD 0=x:=by rw[ht];rfl
 rw[e1]at fT;rw[e2]at ze;have Hrep:=hid (fun W=>pV x n W (by omega));clear hn ht e1 e2;generalize strOf [x]=s1 at *;go_enter func75,ntmps75
 go_wp2_with fail
 refine Hfx.out.mono ?_;rintro e w1 ⟨rfl,sV,hg1⟩;have Hg1:=hid hg1;have Hi1:=hid (Hint.out w1 sV);clear sV hg1 Hfx Hint;go_wp2_with fail
 refine Hi1.out.mono ?_;rintro e w2 ⟨rfl,jX,hg2⟩;have Hg2:=hid (ay Hg1.out hg2);have vW:=hid jX;have Hb2:=hid (aK b _ w2 jX);clear jX hg2 Hg1 Hi1;go_wp2_with fail
 refine Hb2.out.mono ?_;rintro e w3 ⟨rfl,rfl⟩;clear Hb2;have Hr:=hid (fT.out w2 vW.out);clear vW fT;go_wp2_with fail
 refine Hr.out.mono ?_;rintro e w4 ⟨rfl,Io,hg4⟩;have Hg4:=hid (ay Hg2.out hg4);have XI:=hid Io;have Hb4:=hid (aK b _ w4 Io);clear Io hg4 Hg2 Hr;generalize hs:strOf (List.replicate n x)=sT at *;have Hs:=hid hs;clear hs;go_wp2_with fail
 refine(Hrep.out _).mono ?_;rintro e w5 ⟨rfl,hb5⟩;have Hg5:=hid (ay Hg4.out (ak hb5 (some b)));have ajY:=hid (XI.out.below hb5);have Hb5:=hid (aK b _ w5 ajY.out);clear hb5 Hg4 XI Hb4 Hrep;go_wp2_with fail
 refine Hb5.out.mono ?_;rintro e w6 ⟨rfl,rfl⟩;clear Hb5;go_wp2;go_ret2;rw[ze.out,<-Hs.out];exact⟨⟨rfl,ajY.out⟩,Hg5.out⟩
theorem aag(b n:Nat)(t r:List Nat)(most:Int)(w:World)(hn:n<=1048576)(ht:t=[])
  (hfx:Calls prog 39 #[.pointer (some ⟨b,0,none⟩),.int .i64 1] w fun e w'=>e=.returned (.int .u64 1)/\CR w' b (some r)/\w.grownBy w' (some b))
  (hint:∀W,CR W b (some r)->Calls prog 40 #[.pointer (some ⟨b,0,none⟩),.int .i64 (min most 1048576)] W fun e W'=>e=.returned (.int .i64 (n:Int))/\CR W' b (some t)/\W.grownBy W' (some b)) :
  Calls prog 75 #[.pointer (some ⟨b,0,none⟩),.int .i64 most] w fun e w'=>MZ w' b t e (eG 1 n t)/\w.grownBy w' (some b):=by
 have Hfx:=hid hfx;have Hint:=hid hint;clear hfx hint;have fT:=hid (fun W (h:CR W b (some t))=>gD b (some t) 1 W h);rw[show(1:Int).toNat=1 from rfl,Fp 1 t (by rw[ht];simp)]at fT;have ze:=hid ((acL n t).trans (if_neg (by rw[ht];simp)));have Hrep:=hid (fun W=>yt n W (by omega));clear hn ht;generalize hsN:strOf []=sN at *;have HsN:=hid hsN;clear hsN;go_enter func75,ntmps75
 go_wp2_with fail
 refine Hfx.out.mono ?_;rintro e w1 ⟨rfl,sV,hg1⟩;have Hg1:=hid hg1;have Hi1:=hid (Hint.out w1 sV);clear sV hg1 Hfx Hint;go_wp2_with fail
 refine Hi1.out.mono ?_;rintro e w2 ⟨rfl,jX,hg2⟩;have Hg2:=hid (ay Hg1.out hg2);have vW:=hid jX;have Hb2:=hid (aK b _ w2 jX);clear jX hg2 Hg1 Hi1;go_wp2_with fail
 refine Hb2.out.mono ?_;rintro e w3 ⟨rfl,rfl⟩;clear Hb2;have Hr:=hid (fT.out w2 vW.out);clear vW fT;go_wp2_with fail
 refine Hr.out.mono ?_;rintro e w4 ⟨rfl,Io,hg4⟩;have Hg4:=hid (ay Hg2.out hg4);have XI:=hid Io;have Hb4:=hid (aK b _ w4 Io);clear Io hg4 Hg2 Hr;go_wp2_with fail
 refine(Hrep.out _).mono ?_;rintro e w5 ⟨rfl,hb5⟩;have Hg5:=hid (ay Hg4.out (ak hb5 (some b)));have ajY:=hid (XI.out.below hb5);have Hb5:=hid (aK b _ w5 ajY.out);clear hb5 Hg4 XI Hb4 Hrep;go_wp2_with fail
 refine Hb5.out.mono ?_;rintro e w6 ⟨rfl,rfl⟩;clear Hb5;go_wp2;go_ret2;rw[ze.out,<-HsN.out];exact⟨rfl,Hg5.out⟩
theorem afp(b n:Nat)(t r:List Nat)(most:Int)(w:World)(hn:n<=1048576)(ht:t.length<=1000)(hlt:∀x∈t,x<256)
  (hfx:Calls prog 39 #[.pointer (some ⟨b,0,none⟩),.int .i64 1] w fun e w'=>e=.returned (.int .u64 2)/\CR w' b (some r)/\w.grownBy w' (some b))
  (hint:∀W,CR W b (some r)->Calls prog 40 #[.pointer (some ⟨b,0,none⟩),.int .i64 (min most 1048576)] W fun e W'=>e=.returned (.int .i64 (n:Int))/\CR W' b (some t)/\W.grownBy W' (some b)) :
  Calls prog 75 #[.pointer (some ⟨b,0,none⟩),.int .i64 most] w fun e w'=>MZ w' b t e (eG 2 n t)/\w.grownBy w' (some b):=by
 have Hfx:=hid hfx;have Hint:=hid hint;clear hfx hint;have Gq:=hid (fun W (h:CR W b (some t))=>ZY b n t W ht hlt hn h);clear hn ht hlt;generalize hB:eG 2 n t=B at *;go_enter func75,ntmps75
 go_wp2_with fail
 refine Hfx.out.mono ?_;rintro e w1 ⟨rfl,sV,hg1⟩;have Hg1:=hid hg1;have Hi1:=hid (Hint.out w1 sV);clear sV hg1 Hfx Hint;go_wp2_with fail
 refine Hi1.out.mono ?_;rintro e w2 ⟨rfl,jX,hg2⟩;have Hg2:=hid (ay Hg1.out hg2);have vW:=hid jX;have Hb2:=hid (aK b _ w2 jX);clear jX hg2 Hg1 Hi1;go_wp2_with fail
 refine Hb2.out.mono ?_;rintro e w3 ⟨rfl,rfl⟩;clear Hb2;have Ho:=hid (Gq.out w2 vW.out);clear vW Gq;go_wp2_with fail
 refine Ho.out.mono ?_;rintro e w4 ⟨hp,hg4⟩;have Hg4:=hid (ay Hg2.out hg4);clear hg4 Hg2 Ho;have Hp:=hid hp;clear hp;cases B with
 | none=>
  have he:=Hp.out;unfold MZ at he;subst he;clear Hp;go_wp2;go_ret2;exact⟨rfl,Hg4.out⟩
 | some q=>
  have he:=Hp.out;unfold MZ at he;obtain⟨he,hc⟩:=he;have Hc:=hid hc;subst he;clear Hp hc;generalize hs:strOf q.1=sT at *;have Hs:=hid hs;clear hs;go_wp2;go_ret2;exact⟨⟨by rw[Hs.out];rfl,Hc.out⟩,Hg4.out⟩
theorem afq(b k n:Nat)(t r:List Nat)(most:Int)(w:World)(hk:2<k)(hk2:k<256)
  (hfx:Calls prog 39 #[.pointer (some ⟨b,0,none⟩),.int .i64 1] w fun e w'=>e=.returned (.int .u64 (k:Int))/\CR w' b (some r)/\w.grownBy w' (some b))
  (hint:∀W,CR W b (some r)->Calls prog 40 #[.pointer (some ⟨b,0,none⟩),.int .i64 (min most 1048576)] W fun e W'=>e=.returned (.int .i64 (n:Int))/\CR W' b (some t)/\W.grownBy W' (some b)) :
  Calls prog 75 #[.pointer (some ⟨b,0,none⟩),.int .i64 most] w fun e w'=>MZ w' b t e (eG k n t)/\w.grownBy w' (some b):=by
 have Hfx:=hid hfx;have Hint:=hid hint;clear hfx hint;have ze:=hid (ait k n t hk);have k0:((k:Int) == 0)=false:=by rw[beq_eq_false_iff_ne];omega
 have k1:((k:Int) == 1)=false:=by rw[beq_eq_false_iff_ne];omega
 have k2:((k:Int) == 2)=false:=by rw[beq_eq_false_iff_ne];omega
 clear hk;go_enter func75,ntmps75
 go_wp2_with fail
 refine Hfx.out.mono ?_;rintro e w1 ⟨rfl,sV,hg1⟩;have Hg1:=hid hg1;have Hi1:=hid (Hint.out w1 sV);clear sV hg1 Hfx Hint;go_wp2_with fail
 refine Hi1.out.mono ?_;rintro e w2 ⟨rfl,jX,hg2⟩;have Hg2:=hid (ay Hg1.out hg2);have vW:=hid jX;have Hb2:=hid (aK b _ w2 jX);clear jX hg2 Hg1 Hi1;go_wp2_with fail
 refine Hb2.out.mono ?_;rintro e w3 ⟨rfl,rfl⟩;clear Hb2;clear vW;go_wp2;go_ret2;rw[ze.out];exact⟨rfl,Hg2.out⟩
theorem ajy{w':World}{b k j:Nat}{r:List Nat}{e:Ending}{o:Option (List Nat×Nat)}(h:MZ w' b (r.drop j) e o):MZ w' b (k :: r) e (o.map fun q=>(q.1,1+j+q.2)):=by
 cases o with
 | none=>exact h
 | some q=>
  refine⟨h.1,?_⟩;have h2:=h.2;rw[List.drop_drop]at h2;show CR w' b (some ((k :: r).drop (1+j+q.2)));rw[show 1+j+q.2=(j+q.2)+1 by omega,List.drop_succ_cons];exact h2
theorem Ux(b:Nat)(bs:List Nat)(most:Int)(w:World)(hl:bs.length<=1000)(hlt:∀x∈bs,x<256)(hm:bO most)(h:CR w b (some bs)) :
  Calls prog 75 #[.pointer (some ⟨b,0,none⟩),.int .i64 most] w fun e w'=>MZ w' b bs e (vk bs most)/\w.grownBy w' (some b):=by
 have hm2:-9223372036854775808<=min most 1048576/\min most 1048576<=9223372036854775807:=by
  obtain⟨h1,h2⟩:=hm;omega
 have hfx:=kM b (some bs) 1 w (by omega) (by omega) ⟨hlt,by omega⟩ h;cases bs with
 | nil=>
  rw[show gZ (fx 1) (some [])=([],none)from rfl]at hfx;exact EN b _ none most w hfx (fun W hW=>nW b none (min most 1048576) W hm2.1 hm2.2 trivial hW)
 | cons k r=>
  rw[vK]at hfx;dsimp only at hfx;rw[show aW [k]=k by simp[aW]]at hfx;have hk:=hlt k List.mem_cons_self;have hrt:∀x∈r,x<256:=fun x hx=>hlt x (List.mem_cons_of_mem _ hx)
  rw[List.length_cons]at hl;have hint:=fun W (hW:CR W b (some r))=>nW b (some r) (min most 1048576) W hm2.1 hm2.2 ⟨hrt,by omega⟩ hW
  by_cases hc:0<(au r).2/\((au r).1:Int)<=min most 1048576
  ·rw[ni _ r hc.1 hc.2]at hint;dsimp only at hint;have hn:(au r).1<=1048576:=by omega
   have e:vk (k :: r) most=(eG k (au r).1 (r.drop (au r).2)).map fun q=>(q.1,1+(au r).2+q.2):=by
    unfold vk;dsimp only;rw[if_pos ⟨hc.1,by omega,hn⟩]
   rw[e];have key:Calls prog 75 #[.pointer (some ⟨b,0,none⟩),.int .i64 most] w fun e w'=>MZ w' b (r.drop (au r).2) e (eG k (au r).1 (r.drop (au r).2))/\w.grownBy w' (some b):=by
    have hdl:(r.drop (au r).2).length<=1000:=by rw[List.length_drop];omega
    have hdt:∀x∈r.drop (au r).2,x<256:=dG hrt _;clear e hc;generalize (au r).1=n at *;generalize r.drop (au r).2=t at *;match k,hk,hfx with
    | 0,_,hfx=>
     by_cases h0:n<=t.length
     ·exact aaf b n t r most w h0 hfx hint
     ·exact aae b n t r most w h0 hfx hint
    | 1,_,hfx=>
     cases t with
     | nil=>exact aag b n [] r most w hn rfl hfx hint
     | cons x u=>exact aah b x n (x :: u) r most w hn u rfl hfx hint
    | 2,_,hfx=>exact afp b n t r most w hn hdl hdt hfx hint
    | k+3,hk,hfx=>exact afq b (k+3) n t r most w (by omega) hk hfx hint
   exact key.mono fun e w' ⟨h1,h2⟩=>⟨ajy h1,h2⟩
  ·rw[Aa _ r hc]at hint;have e:vk (k :: r) most=none:=by
    unfold vk;dsimp only;rw[if_neg];rintro⟨h1,h2,h3⟩;exact hc ⟨h1,by omega⟩
   rw[e];exact EN b _ (some r) most w hfx hint
end Go.Proofs.YtaebnkeddcbmkaaGreat
