/- Contracts. -/
import Derived.Test.YtgiicohbigiapaaGreatOam
import Derived.Test.YtgiicohbigiapaaGreatOz1
import Derived.Test.YtgiicohbigiapaaGreatOz0
set_option maxHeartbeats 4000000
set_option maxRecDepth 100000
open Go.Proofs.Tryz Go.Proofs.YtgiicohbigiapaaGreat.am List Nat Option
namespace Go.Proofs.YtgiicohbigiapaaGreat
open Go.RowKit
set_option linter.unusedVariables false
theorem apo(s s1:ByteArray)(L v bn:Nat)(w:ah)(eY:s.toList.isEmpty=false)(bB:s.size=L)(bR:L<=2000)
  (fG:∀W:ah,(Instr.slice 9 (.string s) (some (.int .i64 1)) none none).run prog W=.ok (.string s1) W)
  (eJ:∀W,Calls prog 25 #[.string s1] W λe bb=>e=.returned (.tuple #[.int .u64 v,.int .i64 bn])/\av W bb)
  (m:Nat)(hm:m<=100000)(h:0<bn)(af:v<=m)(cl:Nat)(ax:cl=1+bn)(ix:cl<=L)(hidx:∀W:ah,(Instr.index 9 (.string s) (.int .i64 0)).run prog W=.ok (.int .u8 2) W)(s2:ByteArray)(ti:∀W:ah,(Instr.slice 9 (.string s) (some (.int .i64 cl)) none none).run prog W=.ok (.string s2) W)(U:ae)(z:Nat)(aQ:0<z)(cp:Nat)(hq:cp=cl+z)(kc:cp<=L)(bt:∀W,Calls prog 76 #[.string s2] W λe bb=>(∃A c,e=.returned (.tuple #[.slice A U.length c,.int .i64 z])/\Reads bb A (aM U))/\av W bb)
  (iB:ByteArray)(wu:∀W:ah,(Instr.slice 9 (.string s) (some (.int .i64 cp)) none none).run prog W=.ok (.string iB) W)
  (v2 fR:Nat)(nw:∀W,Calls prog 25 #[.string iB] W λe bb=>e=.returned (.tuple #[.int .u64 v2,.int .i64 fR])/\av W bb)(hsz2:0<fR)(nF:Nat)(Mr:nF=cp+fR)(pH:Nat)(Ms:pH=nF+v2)(gd:pH<=L)
  (o0:ByteArray)(F3:∀W:ah,(Instr.slice 9 (.string s) (some (.int .i64 nF)) (some (.int .i64 pH)) none).run prog W=.ok (.string o0) W)
  (hdec:∀W A c,Reads W A (aM U)->Calls prog 77 #[.slice A U.length c,.string o0,.int .i64 v] W λe bb=>ED bb e none/\av W bb) :
  Calls prog 47 #[.string s,.int .i64 m] w λe w'=>e=.returned (mK (none))/\av w w':=by
 have z0:((bn:Int)==0)=false:=cz
 have d0:decide ((m:Int)<0)=false:=aU;have d1:decide ((m:Int)<v)=false:=aU;have d2:decide ((1048576:Int)<v)=false:=aU;have rM:decide (m<v)=false:=aU;have bv:v<=100000:=by omega
 have iL:(1:Int)+bn=cl:=by omega
 have bP:cl<=2000:=by omega
 have ep:=I bt;have xr:=I nw;have H0:((z:Int)==0)=false:=cz
 have kr:(cl:Int)+z=cp:=by omega
 have bw:cp<=2000:=by omega
 clear bt nw;have aal:((fR:Int)==0)=false:=cz
 obtain⟨q,Ds⟩:∃q,q=L-cp-fR:=⟨_,rfl⟩;have yC:(L:Int)-cp-fR=q:=by omega
 have dq:decide ((q:Int)<v2)=false:=aU;have R9:decide (q<v2)=false:=aU;have J8:q<=2000:=by omega
 have Mi:(cp:Int)+fR=nF:=by omega
 have eg:nF<=2000:=by omega
 have akj:(nF:Int)+v2=pH:=by omega
 have pm:pH<=2000:=by omega
 have af9:v2<=2000:=by omega
 have fC:=I hdec;clear h ax ix af aQ hq Ds Mr Ms hdec;have j1:=I eJ;clear eJ;go_enter func47,ntmps47
 go_wp2_with fail
 refine(j1.out _).mono ?_;rintro e aw ⟨rfl,aH⟩;have aN:=I aH;clear aH;go_wp2_with fail
 refine(ep.out _).mono ?_;rintro e aC ⟨⟨A,c,rfl,eN⟩,aJ⟩;have bm:=b3 aN aJ;have oC:=I eN;clear aJ eN;go_wp2_with fail
 refine(xr.out _).mono ?_;rintro e a6 ⟨rfl,bA⟩;have b6:=b3 bm bA;have B3:=I (c7 oC.out bA);clear bA;go_wp2_with fail
 refine(fC.out _ _ _ B3).mono ?_;rintro e bH ⟨⟨pO,c4,rfl⟩,bc⟩;have dt:=b3 b6 bc;clear bc;go_wp2;go_ret2;exact⟨rfl,dt⟩
theorem apq(s s1:ByteArray)(L v bn:Nat)(w:ah)(eY:s.toList.isEmpty=false)(bB:s.size=L)(bR:L<=2000)
  (fG:∀W:ah,(Instr.slice 9 (.string s) (some (.int .i64 1)) none none).run prog W=.ok (.string s1) W)
  (eJ:∀W,Calls prog 25 #[.string s1] W λe bb=>e=.returned (.tuple #[.int .u64 v,.int .i64 bn])/\av W bb)
  (m:Nat)(hm:m<=100000)(h:0<bn)(af:v<=m)(cl:Nat)(ax:cl=1+bn)(ix:cl<=L)(hidx:∀W:ah,(Instr.index 9 (.string s) (.int .i64 0)).run prog W=.ok (.int .u8 2) W)(s2:ByteArray)(ti:∀W:ah,(Instr.slice 9 (.string s) (some (.int .i64 cl)) none none).run prog W=.ok (.string s2) W)(U:ae)(z:Nat)(aQ:0<z)(cp:Nat)(hq:cp=cl+z)(kc:cp<=L)(bt:∀W,Calls prog 76 #[.string s2] W λe bb=>(∃A c,e=.returned (.tuple #[.slice A U.length c,.int .i64 z])/\Reads bb A (aM U))/\av W bb)
  (iB:ByteArray)(wu:∀W:ah,(Instr.slice 9 (.string s) (some (.int .i64 cp)) none none).run prog W=.ok (.string iB) W)
  (v2 fR:Nat)(nw:∀W,Calls prog 25 #[.string iB] W λe bb=>e=.returned (.tuple #[.int .u64 v2,.int .i64 fR])/\av W bb)(hsz2:0<fR)(nF:Nat)(Mr:nF=cp+fR)(pH:Nat)(Ms:pH=nF+v2)(gd:pH<=L)
  (o0:ByteArray)(F3:∀W:ah,(Instr.slice 9 (.string s) (some (.int .i64 nF)) (some (.int .i64 pH)) none).run prog W=.ok (.string o0) W)(d:ae)(aI:∀y∈d,y<256)
  (hdec:∀W A c,Reads W A (aM U)->Calls prog 77 #[.slice A U.length c,.string o0,.int .i64 v] W λe bb=>ED bb e (some d)/\av W bb) :
  Calls prog 47 #[.string s,.int .i64 m] w λe w'=>e=.returned (mK (some (d,pH)))/\av w w':=by
 have z0:((bn:Int)==0)=false:=cz
 have d0:decide ((m:Int)<0)=false:=aU;have d1:decide ((m:Int)<v)=false:=aU;have d2:decide ((1048576:Int)<v)=false:=aU;have rM:decide (m<v)=false:=aU;have bv:v<=100000:=by omega
 have iL:(1:Int)+bn=cl:=by omega
 have bP:cl<=2000:=by omega
 have ep:=I bt;have xr:=I nw;have H0:((z:Int)==0)=false:=cz
 have kr:(cl:Int)+z=cp:=by omega
 have bw:cp<=2000:=by omega
 clear bt nw;have aal:((fR:Int)==0)=false:=cz
 obtain⟨q,Ds⟩:∃q,q=L-cp-fR:=⟨_,rfl⟩;have yC:(L:Int)-cp-fR=q:=by omega
 have dq:decide ((q:Int)<v2)=false:=aU;have R9:decide (q<v2)=false:=aU;have J8:q<=2000:=by omega
 have Mi:(cp:Int)+fR=nF:=by omega
 have eg:nF<=2000:=by omega
 have akj:(nF:Int)+v2=pH:=by omega
 have pm:pH<=2000:=by omega
 have af9:v2<=2000:=by omega
 have fC:=I hdec;clear h ax ix af aQ hq Ds Mr Ms hdec;have nP:=I (λW A c h=>oL W A c d aI h);clear aI;have j1:=I eJ;clear eJ;go_enter func47,ntmps47
 go_wp2_with fail
 refine(j1.out _).mono ?_;rintro e aw ⟨rfl,aH⟩;have aN:=I aH;clear aH;go_wp2_with fail
 refine(ep.out _).mono ?_;rintro e aC ⟨⟨A,c,rfl,eN⟩,aJ⟩;have bm:=b3 aN aJ;have oC:=I eN;clear aJ eN;go_wp2_with fail
 refine(xr.out _).mono ?_;rintro e a6 ⟨rfl,bA⟩;have b6:=b3 bm bA;have B3:=I (c7 oC.out bA);clear bA;go_wp2_with fail
 refine(fC.out _ _ _ B3).mono ?_;rintro e bH ⟨⟨pO,c4,rfl,_,jS⟩,bc⟩;have dt:=b3 b6 bc;have hcv:=nP.out bH pO c4 jS;clear bc jS;go_wp2;go_ret2;exact⟨rfl,dt⟩
theorem amO(bs:ae)(most:Int)(w:ah)(hl:bs.length<=1000)(au:∀x∈bs,x<256)(hm:most<=100000) :
  Calls prog 47 #[.string (strOf bs),.int .i64 most] w λe w'=>e=.returned (mK (jg bs most))/\av w w':=by
 cases bs with
|nil=>exact apv most w
|cons k r=>
  rw[bY]at hl;have hk:=au k dU;have lv:∀x∈r,x<256:=λx ai=>au x (eo _ ai)
  have eY:(strOf (k::r)).toList.isEmpty=false:=by rw[KE,bG (by simp)]
  have bB:(strOf (k::r)).size=r.length+1:=by rw[cy,bY]
  have fG:∀W:ah,(Instr.slice 9 (.string (strOf (k::r))) (some (.int .i64 1)) none none).run prog W=.ok (.string (strOf r)) W:=λW=>o2 (k::r) 1 (by simp) W
  have hcut:∀(j:Nat),j<=r.length+1->∀W:ah,(Instr.slice 9 (.string (strOf (k::r))) (some (.int .i64 j)) none none).run prog W=.ok (.string (strOf ((k::r).drop j))) W:=λj ar W=>o2 (k::r) j (by rw[bY];exact ar) W
  have hmid:∀(i j:Nat),i<=j->j<=r.length+1->∀W:ah,(Instr.slice 9 (.string (strOf (k::r))) (some (.int .i64 i)) (some (.int .i64 j)) none).run prog W=.ok (.string (strOf (((k::r).drop i).take (j-i)))) W:=λi j uX ar W=>by
   rw[Xo (k::r) i j uX (by rw[bY];exact ar) W,drop_take]
  have eJ:=λW=>z7 r W (by omega) lv
  have hidx:∀W:ah,(Instr.index 9 (.string (strOf (k::r))) (.int .i64 0)).run prog W=.ok (.int .u8 k) W:=λW=>pE (k::r) 0 W (by simp) hk
  have yk:∀(j:Nat) (ar:j<(k::r).length) (W:ah),(Instr.index 9 (.string (strOf (k::r))) (.int .i64 j)).run prog W=.ok (.int .u8 (((k::r)[j]:Nat):Int)) W:=λj ar W=>pE (k::r) j W ar (au _ (b8 ar))
  have M1:=wl r [];have hdd:∀j,(k::r).drop (1+j)=r.drop j:=λj=>by rw[Nat.add_comm,drop_succ_cons]
  have ko:(jg (k::r) most)=if 0<(aX r).2/\((aX r).1:Int)<=most/\(aX r).1<=1048576 then(fr k (aX r).1 (r.drop (aX r).2)).map λq=>(q.1,1+(aX r).2+q.2)else none:=rfl
  rw[ko];clear ko;obtain⟨v,aD⟩:∃v,v=(aX r).1:=⟨_,rfl⟩;obtain⟨bn,aQ⟩:∃z,z=(aX r).2:=⟨_,rfl⟩;rw[<-aQ]at M1;rw[<-aD,<-aQ]at eJ ⊢;by_cases ao:bn=0
  .rw[az (by omega)];exact aps _ _ _ v bn w eY bB (by omega) fG eJ most ao
  by_cases hneg:most<0
  .rw[az (by omega)];exact apt _ _ _ v bn w eY bB (by omega) fG eJ most (by omega) hneg
  obtain⟨m,rfl⟩:=Int.eq_ofNat_of_zero_le (show 0<=most by omega);have gZ:m<=100000:=by have:((m:Nat):Int)<=100000:=hm;omega
  by_cases V9:m<v
  .rw[az (by rintro⟨_,h,_⟩;have:((v:Nat):Int)<=((m:Nat):Int):=h;omega)];exact apu _ _ _ v bn w eY bB (by omega) fG eJ m gZ (by omega) V9
  have hsz2:=(M1 (by omega)).2;rw[aB ⟨by omega,by show((v:Nat):Int)<=((m:Nat):Int);omega,by omega⟩];have ix:1+bn<=r.length+1:=by omega
  have e1:(r.drop bn).length=r.length-bn:=cB;have lX:∀x∈r.drop bn,x<256:=jh lv bn;clear M1 aD aQ;by_cases bD:k=0
  .subst bD;by_cases yN:v<=(r.drop bn).length
   .rw[show fr 0 v (r.drop bn)=some ((r.drop bn).take v,v) by unfold fr;rw[aB rfl,aB yN]];refine aph _ _ _ v bn w eY bB (by omega) fG eJ m gZ (by omega) (by omega) (1+bn) rfl ix hidx ((r.drop bn).take v) (1+bn+v) rfl (by omega) (λW=>?_);have h:=hmid (1+bn) (1+bn+v) (by omega) (by omega) W;rw[hdd,show 1+bn+v-(1+bn)=v by omega]at h;exact h
   .rw[show fr 0 v (r.drop bn)=none by unfold fr;rw[aB rfl,az yN]];exact apg _ _ _ v bn w eY bB (by omega) fG eJ m gZ (by omega) (by omega) (1+bn) rfl ix hidx (by omega)
  by_cases bh:k=1
  .subst bh;by_cases yN:0<(r.drop bn).length
   .have ax:1+bn<(1::r).length:=by rw[bY];omega
    have e:(r.drop bn)[0]?.getD 0=(1::r)[1+bn]:=by
     rw[<-hdd,getElem?_drop,fX,bI ax,b7]
    rw[show fr 1 v (r.drop bn)=some (List.replicate v ((1::r)[1+bn]),1) by unfold fr;rw[az (by decide),aB rfl,aB yN,e]];exact apk _ _ _ v bn w eY bB (by omega) fG eJ m gZ (by omega) (by omega) (1+bn) rfl ix hidx _ (au _ (b8 ax)) (1+bn+1) rfl (by rw[bY]at ax;exact ax) (λW=>yk (1+bn) ax W)
   .rw[show fr 1 v (r.drop bn)=none by unfold fr;rw[az (by decide),aB rfl,az yN]];exact apj _ _ _ v bn w eY bB (by omega) fG eJ m gZ (by omega) (by omega) (1+bn) rfl ix hidx (by omega)
  by_cases bN:k=2
  .subst bN;have mS:fr 2 v (r.drop bn)=match iP (r.drop bn)with
   |none=>none
   |some p=>(nl p.1 ((r.drop bn).drop p.2) v).map λq=>(q.1,p.2+q.2):=by
    unfold fr;rw[az (by decide),az (by decide),aB rfl];rfl
   rw[mS];have ti:∀W:ah,(Instr.slice 9 (.string (strOf (2::r))) (some (.int .i64 ((1+bn:Nat):Int))) none none).run prog W=.ok (.string (strOf (r.drop bn))) W:=λW=>by
    have h:=hcut (1+bn) ix W;rw[hdd]at h;exact h
   have bt:=λW=>atK (r.drop bn) W (by omega) lX
   have et:=Oj (r.drop bn);have lY:=Ok (r.drop bn);cases iu:iP (r.drop bn)with
  |none=>
    rw[iu]at bt;exact apl _ _ _ v bn w eY bB (by omega) fG eJ m gZ (by omega) (by omega) (1+bn) rfl ix hidx _ ti bt
  |some p=>
    obtain⟨U,z⟩:=p;rw[iu]at bt;have aQ:=et U z iu;have bk:=lY (U,z) iu;dsimp only at bk ⊢;clear et lY iu mS;have wu:∀W:ah,(Instr.slice 9 (.string (strOf (2::r))) (some (.int .i64 ((1+bn+z:Nat):Int))) none none).run prog W=.ok (.string (strOf ((r.drop bn).drop z))) W:=λW=>by
     have h:=hcut (1+bn+z) (by omega) W;rw[iO,hdd,<-drop_drop,<-iO]at h;exact h
    have V2:((r.drop bn).drop z).length=r.length-bn-z:=by rw[cB,e1]
    have ML:∀x∈(r.drop bn).drop z,x<256:=jh lX z;have F3:∀a b:Nat,1+bn+z+a+b<=r.length+1->∀W:ah,(Instr.slice 9 (.string (strOf (2::r))) (some (.int .i64 ((1+bn+z+a:Nat):Int))) (some (.int .i64 ((1+bn+z+a+b:Nat):Int))) none).run prog W=.ok (.string (strOf ((((r.drop bn).drop z).drop a).take b))) W:=λa b mR W=>by
     have h:=hmid (1+bn+z+a) (1+bn+z+a+b) (by omega) mR W;rw[show 1+bn+z+a+b-(1+bn+z+a)=b by omega]at h;have e:(2::r).drop (1+bn+z+a)=((r.drop bn).drop z).drop a:=by
      rw[drop_drop,drop_drop,<-hdd];congr 1
      omega
     rw[e]at h;exact h
    generalize (r.drop bn).drop z=u at *;have nw:=λW=>z7 u W (by omega) ML
    have Wv:=wl u [];unfold nl;obtain⟨v2,n6⟩:∃v,v=(aX u).1:=⟨_,rfl⟩;obtain⟨fR,bz⟩:∃z,z=(aX u).2:=⟨_,rfl⟩;rw[<-bz]at Wv;rw[<-n6,<-bz]at nw ⊢;have yG:∀W,Calls prog 76 #[.string (strOf (r.drop bn))] W λe bb=>(∃A c,e=.returned (.tuple #[.slice A U.length c,.int .i64 z])/\Reads bb A (aM U))/\av W bb:=bt
    clear n6 bz bt;by_cases aio:fR=0
    .rw[az (by omega)];exact apm _ _ _ v bn w eY bB (by omega) fG eJ m gZ (by omega) (by omega) (1+bn) rfl ix hidx _ ti U z (by omega) (1+bn+z) rfl (by omega) yG _ wu v2 fR nw aio
    have gd:=(Wv (by omega)).2;by_cases ais:v2<=u.length-fR
    .rw[aB ⟨by omega,ais⟩];have hdec:=λW A c (h:Reads W A (aM U))=>atI A c v U ((u.drop fR).take v2) W bk (by omega) (by rw[cr,cB];omega) (λx ai=>ML x (mem_of_mem_drop (mem_of_mem_take ai))) h
     have ajE:=λd h=>FS U ((u.drop fR).take v2) d v (λx ai=>ML x (mem_of_mem_drop (mem_of_mem_take ai))) h
     cases r2:nX U ((u.drop fR).take v2) v with
    |none=>
      rw[r2]at hdec;exact apo _ _ _ v bn w eY bB (by omega) fG eJ m gZ (by omega) (by omega) (1+bn) rfl ix hidx _ ti U z (by omega) (1+bn+z) rfl (by omega) yG _ wu v2 fR nw (by omega) (1+bn+z+fR) rfl (1+bn+z+fR+v2) rfl (by omega) _ (F3 fR v2 (by omega)) hdec
    |some d=>
      rw[r2]at hdec;have aI:=(ajE d r2).2.2;have h:=apq _ _ _ v bn w eY bB (by omega) fG eJ m gZ (by omega) (by omega) (1+bn) rfl ix hidx _ ti U z (by omega) (1+bn+z) rfl (by omega) yG _ wu v2 fR nw (by omega) (1+bn+z+fR) rfl (1+bn+z+fR+v2) rfl (by omega) _ (F3 fR v2 (by omega)) d (λy hy=>gJ (aI y hy) bk.1) hdec;rw[show 1+bn+z+fR+v2=1+bn+(z+(fR+v2)) by omega]at h;exact h
    .rw[az (by omega)];exact apn _ _ _ v bn w eY bB (by omega) fG eJ m gZ (by omega) (by omega) (1+bn) rfl ix hidx _ ti U z (by omega) (1+bn+z) rfl (by omega) yG _ wu v2 fR nw (by omega) (by omega) (by omega)
  rw[show fr k v (r.drop bn)=none by unfold fr;rw[az bD,az bh,az bN]];exact apr _ _ _ v bn w eY bB (by omega) fG eJ m gZ (by omega) (by omega) (1+bn) rfl ix k (by omega) hk hidx
theorem ag5(A:a7)(L c q r:Nat)(W:ah)(h:q<=r)(af:r<=L)(hc:L<=c):(Instr.slice 112 (.slice A L c) (some (.int .i64 q)) (some (.int .i64 r)) none).run prog W=.ok (.slice (mN A c q) (r-q) (c-q)) W:=by
 have h1:q<=c:=by omega
 have aq:r<=c:=by omega
 unfold mN;by_cases C6:c=q
 .subst C6;obtain rfl:c=r:=by omega
  rcases A with _|a
  .go_simp
  .go_simp
 .rcases A with _|a
  .go_simp
  .go_simp
def Ig(w':ah)(e:Ending)(len:Nat):Option (ae×Nat×Nat)->Prop
|none=>e=.returned (.tuple #[.slice none 0 0,.int .i64 0,.int .i64 0])
|some t=>∃A c,e=.returned (.tuple #[.slice A t.1.length c,.int .i64 (t.2.1:Int),.int .i64 ((len:Int)-(t.2.2:Int))])/\Reads w' A (aM t.1)
theorem aim(A:a7)(c N len:Nat)(w:ah)(hlen:len<=100000)(hc:len<=c)(gX:c<=maxLen)(aj:Reads w A (aM (am.bitsOf N len))) :
  Calls prog 155 #[.slice A len c] w λe w'=>Ig w' e len (am.takeA N len)/\av w w':=by
 obtain⟨i0,ay,bC,bL,bz⟩:=info_parts alg;obtain⟨r,hres⟩:∃r,r=am.takeA N len:=⟨_,rfl⟩;rw[<-hres];have b4:=I hres;have bj:=I aj;clear hres aj;unfold maxLen at gX;by_cases aq:len<3
 .have ai:r=none:=by rw[b4.out];unfold am.takeA;rw[aB aq]
  have cc:=I ai;clear ai;go_enter func155,ntmps155
  go_wp2;refine bodyPost_ret (v:=.tuple #[.slice none 0 0,.int .i64 0,.int .i64 0]) (by simp[results,results155,go_sem]) rfl ⟨by rw[cc.out];rfl,Below.refl _ _⟩
 have hcut:∀W,(Instr.slice 112 (.slice A len c) none (some (.int .i64 3)) none).run prog W=.ok (.slice A 3 c) W:=λW=>FI A len c 3 W (by omega) hc
 have jD:=I (HA A 3 c (N%2^3) w (by omega) (mod_lt _ (by omega)) (Fp bj.out (by omega)));have akM:N%2^3<8:=mod_lt _ (by omega);obtain⟨v,aD⟩:∃v,v=N%2^3:=⟨_,rfl⟩;have gR:=I aD;rw[<-aD]at jD akM;clear aD;by_cases aK:4<v
 .have ai:r=none:=by rw[b4.out];unfold am.takeA;rw[az aq,<-gR.out,aB aK]
  have cc:=I ai;clear ai;go_enter func155,ntmps155
  go_wp2_with fail
  refine jD.out.mono ?_;rintro e w' ⟨rfl,rfl⟩;go_wp2;refine bodyPost_ret (v:=.tuple #[.slice none 0 0,.int .i64 0,.int .i64 0]) (by simp[results,results155,go_sem]) rfl ⟨by rw[cc.out];rfl,Below.refl _ _⟩
 have wK:r=(am.takeN 256 (2^(5+v)) (N/2^3) (len-3)).map λt=>([]++t.1,5+v,t.2):=by
  rw[b4.out];unfold am.takeA;rw[az aq,<-gR.out,az aK];simp
 have cJ:2^(5+v)<=512:=dy (n:=2) (j:=9) (by omega) (by omega);have bB:∀w,Calls prog 82 #[.int .i64 (5+(v:Int))] w λe w'=>e=.returned (.int .i64 ((2^(5+v):Nat):Int))/\w=w':=λw=>by
  have h1:=ve ((5+v:Nat):Int) w (by omega);rw[cX]at h1;exact h1
 have fS:=I bB;generalize 2^(5+v)=P at *;have xD:=I wK;clear wK bB;go_enter func155,ntmps155
 go_wp2_with fail
 refine jD.out.mono ?_;rintro e w' ⟨rfl,rfl⟩;clear jD;go_wp2_with fail
 refine(fS.out w).mono ?_;rintro e w' ⟨rfl,rfl⟩;clear hcut;go_wp2;go_loopw [6,7,8] (λu a s wr=>∃(t R:Nat) (acc:ae),a=.int .i64 t/\s=.int .i64 R/\t<=len/\R<=512/\acc.length<=256/\Hid (r=(am.takeN (256-acc.length) R (N/2^t) (len-t)).map λx=>(acc++x.1,5+v,x.2))/\Hid (wr.ownsRow w.heap.size 3 1 u acc.length (aM acc))/\Hid (av w wr)) (λ_ a _ _=>len-(intOf a).toNat)
 case atStart=>exact⟨3,P,[],rfl,rfl,by omega,cJ,by simp,xD,I (World.ownsRow_nil _ _ _ _),I dM⟩
 case round=>
  obtain⟨t,R,acc,rfl,rfl,e1,cK,dw,fC,hown,hbel⟩:=hrel;rcases eq_zero_or_pos R with Ag|Ag
  .subst Ag;have hfin:r=some (acc,5+v,len-t):=by
    have h1:=fC.out;rw[h1];cases 256-acc.length<;>simp[am.takeN]
   have fe:=I hfin;obtain⟨da,db,rfl,bt,_⟩:=kJ hown.out;have ep:=I bt;clear hfin bt hown;go_wp2;refine bodyPost_ret (v:=.tuple #[.slice da acc.length db,.int .i64 (5+(v:Int)),.int .i64 t]) (by simp[results,results155,go_sem]) rfl ⟨by rw[fe.out];exact⟨da,db,by dsimp only;rw[show((5+v:Nat):Int)=5+(v:Int) by omega,show(len:Int)-((len-t:Nat):Int)=t by omega],ep.out⟩,hbel.out⟩
  .have jP:decide ((0:Int)<R)=true:=cf;have gU:=sK R Ag;have mX:=qx R 10 (by omega);have uj:=I (YH R wr (by omega));obtain⟨da,db,rfl,bt,_⟩:=kJ hown.out;have qO:IntKind.u32.wrap (R:Int)=R:=by simp[IntKind.wrap,IntKind.bits,IntKind.signed];omega
   have wQ:∀f,256-acc.length=f+1->am.takeN (256-acc.length) R (N/2^t) (len-t)=if len-t<am.wid R then none else if R<N/2^t%2^am.wid R then none else(am.takeN f (R-N/2^t%2^am.wid R) (N/2^t/2^am.wid R) (len-t-am.wid R)).map λx=>(N/2^t%2^am.wid R::x.1,x.2):=λf aL=>by
    rw[aL,am.takeN,az (by omega)]
   have aQ:256-acc.length=0->am.takeN (256-acc.length) R (N/2^t) (len-t)=none:=λaL=>by
    rw[aL,am.takeN,az (by omega)]
   have QM:=I wQ;have jM:=I aQ;clear wQ aQ bt;by_cases h1:len<t+am.wid R
   .have ai:r=none:=by
     rw[fC.out];rcases eq_zero_or_pos (256-acc.length)with af|af
     .rw[jM.out af];rfl
     .rw[QM.out (256-acc.length-1) (by omega),aB (by omega)];rfl
    have cc:=I ai;clear ai;generalize am.wid R=b at *;have n2:decide ((len:Int)<t+(b:Int))=true:=cf;go_wp2_with fail
    refine uj.out.mono ?_;rintro e w' ⟨rfl,rfl⟩;go_wp2;refine bodyPost_ret (v:=.tuple #[.slice none 0 0,.int .i64 0,.int .i64 0]) (by simp[results,results155,go_sem]) rfl ⟨by rw[cc.out];rfl,hbel⟩
   have n2:decide ((len:Int)<t+(am.wid R:Int))=false:=aU;by_cases af:acc.length=256
   .have ai:r=none:=by
     rw[fC.out,jM.out (by omega)];rfl
    have cc:=I ai;clear ai hown;generalize am.wid R=b at *;have r1:((acc.length:Int)==256)=true:=by rw[af];rfl
    clear af;generalize acc.length=k at *;go_wp2_with fail
    refine uj.out.mono ?_;rintro e w' ⟨rfl,rfl⟩;go_wp2;refine bodyPost_ret (v:=.tuple #[.slice none 0 0,.int .i64 0,.int .i64 0]) (by simp[results,results155,go_sem]) rfl ⟨by rw[cc.out];rfl,hbel⟩
   have r1:((acc.length:Int)==256)=false:=cz
   have aI:=fC.out;rw[QM.out (256-acc.length-1) (by omega),az (by omega)]at aI;have ajh:∀W,(Instr.slice 112 (.slice A len c) (some (.int .i64 t)) (some (.int .i64 ((t:Int)+(am.wid R:Int)))) none).run prog W=.ok (.slice (mN A c t) (am.wid R) (c-t)) W:=λW=>by
    have aT:=ag5 A len c t (t+am.wid R) W (by omega) (by omega) hc;rw[Nat.add_sub_cancel_left]at aT;exact aT
   have jD:=HA (mN A c t) (am.wid R) (c-t) (N/2^t%2^am.wid R) wr (by omega) (mod_lt _ (eK _)) (Fp (J5 (c7 bj.out hbel.out) e1 hc) (by omega));have awS:N/2^t%2^am.wid R<1024:=gJ (mod_lt _ (eK _)) (dy (n:=2) (j:=10) (by omega) mX);rw[jX,<-dI]at aI;have fv:=I jD;have EP:=I aI;clear aI jD;generalize N/2^t%2^am.wid R=x at *;generalize am.wid R=b at *;by_cases aK:R<x
   .have ai:r=none:=by
     rw[EP.out,aB aK];rfl
    have cc:=I ai;have TW:decide (R<x)=true:=bE aK;clear ai hown;generalize acc.length=k at *;go_wp2_with fail
    refine uj.out.mono ?_;rintro e w' ⟨rfl,rfl⟩;go_wp2_with fail
    refine fv.out.mono ?_;rintro e w' ⟨rfl,rfl⟩;go_wp2;refine bodyPost_ret (v:=.tuple #[.slice none 0 0,.int .i64 0,.int .i64 0]) (by simp[results,results155,go_sem]) rfl ⟨by rw[cc.out];rfl,hbel⟩
   have TW:decide (R<x)=false:=bG aK;have pX:Hid (r=(am.takeN (256-(acc++[x]).length) (R-x) (N/2^(t+b)) (len-(t+b))).map λy=>((acc++[x])++y.1,5+v,y.2)):=I (by
    rw[EP.out,az aK,show 256-(acc++[x]).length=256-acc.length-1 by simp;omega,show len-(t+b)=len-t-b by omega];cases am.takeN (256-acc.length-1) (R-x) (N/2^(t+b)) (len-t-b)<;>simp)
   go_wp2_with fail
   refine uj.out.mono ?_;rintro e w' ⟨rfl,rfl⟩;go_wp2_with fail
   refine fv.out.mono ?_;rintro e w' ⟨rfl,rfl⟩;go_wp2_with (at_builtin;refine wpList_append_own _ rfl _ _ 112 rfl w.heap.size 3 i0 (.int .i64 0) 1 8 underlying112 ay bC bL bz rfl (by decide) _ _ _ rfl (hown.out.alloc _) ⟨wr.heap.size,0,none⟩ 1 1 [.int .i64 x] rfl rfl ?d1 ?d2 ?d3 ?d4 ?d5 ?_)
   case d1=>
    intro j u ar;match j,ar with
   |0,ar=>simp at ar;subst ar;simp[Addr.add]
   case d2=>intro u hu;simp at hu;subst hu;rfl
   case d3=>unfold maxLen;omega
   case d4=>omega
   case d5=>have:=hbel.out.size;simp;omega
   intro gN aC hown2 qR _;have jk:av w aC:=(hbel.out.alloc hbel.out.size _).grown qR (by have:=hbel.out.size;simp;omega) (λx e=>(hown.out.lt x e).1);have e:aM acc++[Value.int .i64 x]=aM (acc++[x]):=by simp[aM]
   have e2:acc.length+1=(acc++[x]).length:=by simp
   rw[e,e2]at hown2;have oz:=I hown2;have ru:=I jk;have ai1:(acc++[x]).length<=256:=by simp;omega
   clear qR hown2 jk e e2 hown hbel jP n2 r1 TW qO;clear ajh;go_wp2;go_roundw
   case rel=>exact⟨t+b,R-x,acc++[x],by go_num,by go_num,by omega,by omega,ai1,pX,oz,ru⟩
   case measure=>simp[intOf];omega
end Go.Proofs.YtgiicohbigiapaaGreat
