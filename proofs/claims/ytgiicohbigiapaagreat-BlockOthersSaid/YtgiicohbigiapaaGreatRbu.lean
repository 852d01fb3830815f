/- Contracts, and what they rest on. Conditions: the theorems' premises. -/
import Derived.Test.YtgiicohbigiapaaGreatRbr
import Derived.Test.YtgiicohbigiapaaGreatRbt
set_option maxHeartbeats 4000000
set_option maxRecDepth 100000
open Go.Lib(hid)
open Go.Proofs.Tryz Go.Proofs.YtgiicohbigiapaaGreat.Bm
namespace Go.Proofs.YtgiicohbigiapaaGreat
open Go.RowKit
theorem Zc(n:Nat)(t:List Nat):eD 0 n t=if n≤t.length then some (t.take n,n)else none:=by
 unfold eD;rw[if_pos rfl]
theorem Zd(n:Nat)(t:List Nat):eD 1 n t=if 0<t.length then some (List.replicate n (t[0]?.getD 0),1)else none:=by
 unfold eD;rw[if_neg (by decide),if_pos rfl]
theorem aez(k n:Nat)(t:List Nat)(h:2<k):eD k n t=none:=by
 unfold eD;rw[if_neg (by omega),if_neg (by omega),if_neg (by omega)]
theorem Dm(b:Nat)(k:Int)(st:Left)(most:Int)(w:World)
  (hfx:Calls prog 39 #[.pointer (some ⟨b,0,none⟩),.int .i64 1] w fun e w'=>e=.returned (.int .u64 k)∧CR w' b st∧w.grownBy w' (some b))
  (hint:∀W,CR W b st→Calls prog 40 #[.pointer (some ⟨b,0,none⟩),.int .i64 (min most 1048576)] W fun e W'=>e=.returned (.int .i64 0)∧CR W' b none∧W.grownBy W' (some b)) :
  Calls prog 72 #[.pointer (some ⟨b,0,none⟩),.int .i64 most] w fun e w'=>e=.returned (.tuple #[.string (strOf []),.bool false])∧w.grownBy w' (some b):=by
 have Hfx:=hid hfx;have Hint:=hid hint;clear hfx hint;go_enter func72,ntmps72
 go_wp2_with fail
 refine Hfx.out.mono ?_;rintro e w1 ⟨rfl,rD,hg1⟩;have Hg1:=hid hg1;have Hi1:=hid (Hint.out w1 rD);clear rD hg1 Hfx Hint;go_wp2_with fail
 refine Hi1.out.mono ?_;rintro e w2 ⟨rfl,jQ,hg2⟩;have Hg2:=hid (aA Hg1.out hg2);have uR:=hid jQ;have Hb2:=hid (aK b _ w2 jQ);clear jQ hg2 Hg1 Hi1;go_wp2_with fail
 refine Hb2.out.mono ?_;rintro e w3 ⟨rfl,rfl⟩;clear Hb2;clear uR;go_wp2;go_ret2;exact⟨rfl,Hg2.out⟩
theorem WK(b n:Nat)(t r:List Nat)(most:Int)(w:World)(hn:n≤t.length)
  (hfx:Calls prog 39 #[.pointer (some ⟨b,0,none⟩),.int .i64 1] w fun e w'=>e=.returned (.int .u64 0)∧CR w' b (some r)∧w.grownBy w' (some b))
  (hint:∀W,CR W b (some r)→Calls prog 40 #[.pointer (some ⟨b,0,none⟩),.int .i64 (min most 1048576)] W fun e W'=>e=.returned (.int .i64 (n:Int))∧CR W' b (some t)∧W.grownBy W' (some b)) :
  Calls prog 72 #[.pointer (some ⟨b,0,none⟩),.int .i64 most] w fun e w'=>Kt w' b t e (eD 0 n t)∧w.grownBy w' (some b):=by
 have Hfx:=hid hfx;have Hint:=hid hint;clear hfx hint;have fO:=hid (fun W (h:CR W b (some t))=>fZ b (some t) (n:Int) W h);rw[Int.toNat_natCast,wP n t hn]at fO;have xW:=hid ((Zc n t).trans (if_pos hn));clear hn;go_enter func72,ntmps72
 go_wp2_with fail
 refine Hfx.out.mono ?_;rintro e w1 ⟨rfl,rD,hg1⟩;have Hg1:=hid hg1;have Hi1:=hid (Hint.out w1 rD);clear rD hg1 Hfx Hint;go_wp2_with fail
 refine Hi1.out.mono ?_;rintro e w2 ⟨rfl,jQ,hg2⟩;have Hg2:=hid (aA Hg1.out hg2);have uR:=hid jQ;have Hb2:=hid (aK b _ w2 jQ);clear jQ hg2 Hg1 Hi1;go_wp2_with fail
 refine Hb2.out.mono ?_;rintro e w3 ⟨rfl,rfl⟩;clear Hb2;have Hr:=hid (fO.out w2 uR.out);clear uR fO;go_wp2_with fail
 refine Hr.out.mono ?_;rintro e w4 ⟨rfl,Fp,hg4⟩;have Hg4:=hid (aA Hg2.out hg4);have Us:=hid Fp;have Hb4:=hid (aK b _ w4 Fp);clear Fp hg4 Hg2 Hr;generalize hs:strOf (t.take n)=sT at *;have Hs:=hid hs;clear hs;go_wp2_with fail
 refine Hb4.out.mono ?_;rintro e w5 ⟨rfl,rfl⟩;clear Hb4;go_wp2;go_ret2;rw[xW.out,←Hs.out];exact⟨⟨rfl,Us.out⟩,Hg4.out⟩
theorem WJ(b n:Nat)(t r:List Nat)(most:Int)(w:World)(hn:¬n≤t.length)
  (hfx:Calls prog 39 #[.pointer (some ⟨b,0,none⟩),.int .i64 1] w fun e w'=>e=.returned (.int .u64 0)∧CR w' b (some r)∧w.grownBy w' (some b))
  (hint:∀W,CR W b (some r)→Calls prog 40 #[.pointer (some ⟨b,0,none⟩),.int .i64 (min most 1048576)] W fun e W'=>e=.returned (.int .i64 (n:Int))∧CR W' b (some t)∧W.grownBy W' (some b)) :
  Calls prog 72 #[.pointer (some ⟨b,0,none⟩),.int .i64 most] w fun e w'=>Kt w' b t e (eD 0 n t)∧w.grownBy w' (some b):=by
 have Hfx:=hid hfx;have Hint:=hid hint;clear hfx hint;have fO:=hid (fun W (h:CR W b (some t))=>fZ b (some t) (n:Int) W h);rw[Int.toNat_natCast,DJ n t hn]at fO;have xW:=hid ((Zc n t).trans (if_neg hn));clear hn;go_enter func72,ntmps72
 go_wp2_with fail
 refine Hfx.out.mono ?_;rintro e w1 ⟨rfl,rD,hg1⟩;have Hg1:=hid hg1;have Hi1:=hid (Hint.out w1 rD);clear rD hg1 Hfx Hint;go_wp2_with fail
 refine Hi1.out.mono ?_;rintro e w2 ⟨rfl,jQ,hg2⟩;have Hg2:=hid (aA Hg1.out hg2);have uR:=hid jQ;have Hb2:=hid (aK b _ w2 jQ);clear jQ hg2 Hg1 Hi1;go_wp2_with fail
 refine Hb2.out.mono ?_;rintro e w3 ⟨rfl,rfl⟩;clear Hb2;have Hr:=hid (fO.out w2 uR.out);clear uR fO;go_wp2_with fail
 refine Hr.out.mono ?_;rintro e w4 ⟨rfl,Fp,hg4⟩;have Hg4:=hid (aA Hg2.out hg4);have Us:=hid Fp;have Hb4:=hid (aK b _ w4 Fp);clear Fp hg4 Hg2 Hr;go_wp2_with fail
 refine Hb4.out.mono ?_;rintro e w5 ⟨rfl,rfl⟩;clear Hb4;go_wp2;go_ret2;rw[xW.out];exact⟨rfl,Hg4.out⟩
theorem WM(b x n:Nat)(t r:List Nat)(most:Int)(w:World)(hn:n≤1048576)(u:List Nat)(ht:t=x :: u)
  (hfx:Calls prog 39 #[.pointer (some ⟨b,0,none⟩),.int .i64 1] w fun e w'=>e=.returned (.int .u64 1)∧CR w' b (some r)∧w.grownBy w' (some b))
  (hint:∀W,CR W b (some r)→Calls prog 40 #[.pointer (some ⟨b,0,none⟩),.int .i64 (min most 1048576)] W fun e W'=>e=.returned (.int .i64 (n:Int))∧CR W' b (some t)∧W.grownBy W' (some b)) :
  Calls prog 72 #[.pointer (some ⟨b,0,none⟩),.int .i64 most] w fun e w'=>Kt w' b t e (eD 1 n t)∧w.grownBy w' (some b):=by
 have Hfx:=hid hfx;have Hint:=hid hint;clear hfx hint;have fO:=hid (fun W (h:CR W b (some t))=>fZ b (some t) 1 W h);rw[show(1:Int).toNat=1 from rfl,wP 1 t (by rw[ht];simp)]at fO;have xW:=hid ((Zd n t).trans (if_pos (by rw[ht];simp)));have e1:t.take 1=[x]:=by rw[ht];rfl
 have e2:t[0]?.getD 0=x:=by rw[ht];rfl
 rw[e1]at fO;rw[e2]at xW;have Hrep:=hid (fun W=>oU x n W (by omega));clear hn ht e1 e2;generalize strOf [x]=s1 at *;go_enter func72,ntmps72
 go_wp2_with fail
 refine Hfx.out.mono ?_;rintro e w1 ⟨rfl,rD,hg1⟩;have Hg1:=hid hg1;have Hi1:=hid (Hint.out w1 rD);clear rD hg1 Hfx Hint;go_wp2_with fail
 refine Hi1.out.mono ?_;rintro e w2 ⟨rfl,jQ,hg2⟩;have Hg2:=hid (aA Hg1.out hg2);have uR:=hid jQ;have Hb2:=hid (aK b _ w2 jQ);clear jQ hg2 Hg1 Hi1;go_wp2_with fail
 refine Hb2.out.mono ?_;rintro e w3 ⟨rfl,rfl⟩;clear Hb2;have Hr:=hid (fO.out w2 uR.out);clear uR fO;go_wp2_with fail
 refine Hr.out.mono ?_;rintro e w4 ⟨rfl,Fp,hg4⟩;have Hg4:=hid (aA Hg2.out hg4);have Us:=hid Fp;have Hb4:=hid (aK b _ w4 Fp);clear Fp hg4 Hg2 Hr;generalize hs:strOf (List.replicate n x)=sT at *;have Hs:=hid hs;clear hs;go_wp2_with fail
 refine(Hrep.out _).mono ?_;rintro e w5 ⟨rfl,hb5⟩;have Hg5:=hid (aA Hg4.out (ak hb5 (some b)));have afX:=hid (Us.out.below hb5);have Hb5:=hid (aK b _ w5 afX.out);clear hb5 Hg4 Us Hb4 Hrep;go_wp2_with fail
 refine Hb5.out.mono ?_;rintro e w6 ⟨rfl,rfl⟩;clear Hb5;go_wp2;go_ret2;rw[xW.out,←Hs.out];exact⟨⟨rfl,afX.out⟩,Hg5.out⟩
theorem WL(b n:Nat)(t r:List Nat)(most:Int)(w:World)(hn:n≤1048576)(ht:t=[])
  (hfx:Calls prog 39 #[.pointer (some ⟨b,0,none⟩),.int .i64 1] w fun e w'=>e=.returned (.int .u64 1)∧CR w' b (some r)∧w.grownBy w' (some b))
  (hint:∀W,CR W b (some r)→Calls prog 40 #[.pointer (some ⟨b,0,none⟩),.int .i64 (min most 1048576)] W fun e W'=>e=.returned (.int .i64 (n:Int))∧CR W' b (some t)∧W.grownBy W' (some b)) :
  Calls prog 72 #[.pointer (some ⟨b,0,none⟩),.int .i64 most] w fun e w'=>Kt w' b t e (eD 1 n t)∧w.grownBy w' (some b):=by
 have Hfx:=hid hfx;have Hint:=hid hint;clear hfx hint;have fO:=hid (fun W (h:CR W b (some t))=>fZ b (some t) 1 W h);rw[show(1:Int).toNat=1 from rfl,DJ 1 t (by rw[ht];simp)]at fO;have xW:=hid ((Zd n t).trans (if_neg (by rw[ht];simp)));have Hrep:=hid (fun W=>xg n W (by omega));clear hn ht;generalize hsN:strOf []=sN at *;have HsN:=hid hsN;clear hsN;go_enter func72,ntmps72
 go_wp2_with fail
 refine Hfx.out.mono ?_;rintro e w1 ⟨rfl,rD,hg1⟩;have Hg1:=hid hg1;have Hi1:=hid (Hint.out w1 rD);clear rD hg1 Hfx Hint;go_wp2_with fail
 refine Hi1.out.mono ?_;rintro e w2 ⟨rfl,jQ,hg2⟩;have Hg2:=hid (aA Hg1.out hg2);have uR:=hid jQ;have Hb2:=hid (aK b _ w2 jQ);clear jQ hg2 Hg1 Hi1;go_wp2_with fail
 refine Hb2.out.mono ?_;rintro e w3 ⟨rfl,rfl⟩;clear Hb2;have Hr:=hid (fO.out w2 uR.out);clear uR fO;go_wp2_with fail
 refine Hr.out.mono ?_;rintro e w4 ⟨rfl,Fp,hg4⟩;have Hg4:=hid (aA Hg2.out hg4);have Us:=hid Fp;have Hb4:=hid (aK b _ w4 Fp);clear Fp hg4 Hg2 Hr;go_wp2_with fail
 refine(Hrep.out _).mono ?_;rintro e w5 ⟨rfl,hb5⟩;have Hg5:=hid (aA Hg4.out (ak hb5 (some b)));have afX:=hid (Us.out.below hb5);have Hb5:=hid (aK b _ w5 afX.out);clear hb5 Hg4 Us Hb4 Hrep;go_wp2_with fail
 refine Hb5.out.mono ?_;rintro e w6 ⟨rfl,rfl⟩;clear Hb5;go_wp2;go_ret2;rw[xW.out,←HsN.out];exact⟨rfl,Hg5.out⟩
theorem abE(b n:Nat)(t r:List Nat)(most:Int)(w:World)(hn:n≤1048576)(ht:t.length≤1000)(hlt:∀x∈t,x<256)
  (hfx:Calls prog 39 #[.pointer (some ⟨b,0,none⟩),.int .i64 1] w fun e w'=>e=.returned (.int .u64 2)∧CR w' b (some r)∧w.grownBy w' (some b))
  (hint:∀W,CR W b (some r)→Calls prog 40 #[.pointer (some ⟨b,0,none⟩),.int .i64 (min most 1048576)] W fun e W'=>e=.returned (.int .i64 (n:Int))∧CR W' b (some t)∧W.grownBy W' (some b)) :
  Calls prog 72 #[.pointer (some ⟨b,0,none⟩),.int .i64 most] w fun e w'=>Kt w' b t e (eD 2 n t)∧w.grownBy w' (some b):=by
 have Hfx:=hid hfx;have Hint:=hid hint;clear hfx hint;have EA:=hid (fun W (h:CR W b (some t))=>WG b n t W ht hlt hn h);clear hn ht hlt;generalize hB:eD 2 n t=B at *;go_enter func72,ntmps72
 go_wp2_with fail
 refine Hfx.out.mono ?_;rintro e w1 ⟨rfl,rD,hg1⟩;have Hg1:=hid hg1;have Hi1:=hid (Hint.out w1 rD);clear rD hg1 Hfx Hint;go_wp2_with fail
 refine Hi1.out.mono ?_;rintro e w2 ⟨rfl,jQ,hg2⟩;have Hg2:=hid (aA Hg1.out hg2);have uR:=hid jQ;have Hb2:=hid (aK b _ w2 jQ);clear jQ hg2 Hg1 Hi1;go_wp2_with fail
 refine Hb2.out.mono ?_;rintro e w3 ⟨rfl,rfl⟩;clear Hb2;have Ho:=hid (EA.out w2 uR.out);clear uR EA;go_wp2_with fail
 refine Ho.out.mono ?_;rintro e w4 ⟨hp,hg4⟩;have Hg4:=hid (aA Hg2.out hg4);clear hg4 Hg2 Ho;have Hp:=hid hp;clear hp;cases B with
 | none=>
  have he:=Hp.out;unfold Kt at he;subst he;clear Hp;go_wp2;go_ret2;exact⟨rfl,Hg4.out⟩
 | some q=>
  have he:=Hp.out;unfold Kt at he;obtain⟨he,hc⟩:=he;have Hc:=hid hc;subst he;clear Hp hc;generalize hs:strOf q.1=sT at *;have Hs:=hid hs;clear hs;go_wp2;go_ret2;exact⟨⟨by rw[Hs.out];rfl,Hc.out⟩,Hg4.out⟩
theorem abF(b k n:Nat)(t r:List Nat)(most:Int)(w:World)(hk:2<k)(hk2:k<256)
  (hfx:Calls prog 39 #[.pointer (some ⟨b,0,none⟩),.int .i64 1] w fun e w'=>e=.returned (.int .u64 (k:Int))∧CR w' b (some r)∧w.grownBy w' (some b))
  (hint:∀W,CR W b (some r)→Calls prog 40 #[.pointer (some ⟨b,0,none⟩),.int .i64 (min most 1048576)] W fun e W'=>e=.returned (.int .i64 (n:Int))∧CR W' b (some t)∧W.grownBy W' (some b)) :
  Calls prog 72 #[.pointer (some ⟨b,0,none⟩),.int .i64 most] w fun e w'=>Kt w' b t e (eD k n t)∧w.grownBy w' (some b):=by
 have Hfx:=hid hfx;have Hint:=hid hint;clear hfx hint;have xW:=hid (aez k n t hk);have k0:((k:Int) == 0)=false:=by rw[beq_eq_false_iff_ne];omega
 have k1:((k:Int) == 1)=false:=by rw[beq_eq_false_iff_ne];omega
 have k2:((k:Int) == 2)=false:=by rw[beq_eq_false_iff_ne];omega
 clear hk;go_enter func72,ntmps72
 go_wp2_with fail
 refine Hfx.out.mono ?_;rintro e w1 ⟨rfl,rD,hg1⟩;have Hg1:=hid hg1;have Hi1:=hid (Hint.out w1 rD);clear rD hg1 Hfx Hint;go_wp2_with fail
 refine Hi1.out.mono ?_;rintro e w2 ⟨rfl,jQ,hg2⟩;have Hg2:=hid (aA Hg1.out hg2);have uR:=hid jQ;have Hb2:=hid (aK b _ w2 jQ);clear jQ hg2 Hg1 Hi1;go_wp2_with fail
 refine Hb2.out.mono ?_;rintro e w3 ⟨rfl,rfl⟩;clear Hb2;clear uR;go_wp2;go_ret2;rw[xW.out];exact⟨rfl,Hg2.out⟩
theorem afy{w':World}{b k j:Nat}{r:List Nat}{e:Ending}{o:Option (List Nat×Nat)}(h:Kt w' b (r.drop j) e o):Kt w' b (k :: r) e (o.map fun q=>(q.1,1+j+q.2)):=by
 cases o with
 | none=>exact h
 | some q=>
  refine⟨h.1,?_⟩;have h2:=h.2;rw[List.drop_drop]at h2;show CR w' b (some ((k :: r).drop (1+j+q.2)));rw[show 1+j+q.2=(j+q.2)+1 by omega,List.drop_succ_cons];exact h2
theorem QX(b:Nat)(bs:List Nat)(most:Int)(w:World)(hl:bs.length≤1000)(hlt:∀x∈bs,x<256)(hm:bM most)(h:CR w b (some bs)) :
  Calls prog 72 #[.pointer (some ⟨b,0,none⟩),.int .i64 most] w fun e w'=>Kt w' b bs e (tY bs most)∧w.grownBy w' (some b):=by
 have hm2:-9223372036854775808≤min most 1048576∧min most 1048576≤9223372036854775807:=by
  obtain⟨h1,h2⟩:=hm;omega
 have hfx:=kE b (some bs) 1 w (by omega) (by omega) ⟨hlt,by omega⟩ h;cases bs with
 | nil=>
  rw[show gW (fx 1) (some [])=([],none)from rfl]at hfx;exact Dm b _ none most w hfx (fun W hW=>nH b none (min most 1048576) W hm2.1 hm2.2 trivial hW)
 | cons k r=>
  rw[uH]at hfx;dsimp only at hfx;rw[show aS [k]=k by simp[aS]]at hfx;have hk:=hlt k List.mem_cons_self;have hrt:∀x∈r,x<256:=fun x hx=>hlt x (List.mem_cons_of_mem _ hx)
  rw[List.length_cons]at hl;have hint:=fun W (hW:CR W b (some r))=>nH b (some r) (min most 1048576) W hm2.1 hm2.2 ⟨hrt,by omega⟩ hW
  by_cases hc:0<(aj r).2∧((aj r).1:Int)≤min most 1048576
  ·rw[mI _ r hc.1 hc.2]at hint;dsimp only at hint;have hn:(aj r).1≤1048576:=by omega
   have e:tY (k :: r) most=(eD k (aj r).1 (r.drop (aj r).2)).map fun q=>(q.1,1+(aj r).2+q.2):=by
    unfold tY;dsimp only;rw[if_pos ⟨hc.1,by omega,hn⟩]
   rw[e];have key:Calls prog 72 #[.pointer (some ⟨b,0,none⟩),.int .i64 most] w fun e w'=>Kt w' b (r.drop (aj r).2) e (eD k (aj r).1 (r.drop (aj r).2))∧w.grownBy w' (some b):=by
    have hdl:(r.drop (aj r).2).length≤1000:=by rw[List.length_drop];omega
    have hdt:∀x∈r.drop (aj r).2,x<256:=bZ hrt _;clear e hc;generalize (aj r).1=n at *;generalize r.drop (aj r).2=t at *;match k,hk,hfx with
    | 0,_,hfx=>
     by_cases h0:n≤t.length
     ·exact WK b n t r most w h0 hfx hint
     ·exact WJ b n t r most w h0 hfx hint
    | 1,_,hfx=>
     cases t with
     | nil=>exact WL b n [] r most w hn rfl hfx hint
     | cons x u=>exact WM b x n (x :: u) r most w hn u rfl hfx hint
    | 2,_,hfx=>exact abE b n t r most w hn hdl hdt hfx hint
    | k+3,hk,hfx=>exact abF b (k+3) n t r most w (by omega) hk hfx hint
   exact key.mono fun e w' ⟨h1,h2⟩=>⟨afy h1,h2⟩
  ·rw[yY _ r hc]at hint;have e:tY (k :: r) most=none:=by
    unfold tY;dsimp only;rw[if_neg];rintro⟨h1,h2,h3⟩;exact hc ⟨h1,by omega⟩
   rw[e];exact Dm b _ (some r) most w hfx hint
end Go.Proofs.YtgiicohbigiapaaGreat
