/- Contracts. -/
import Derived.Test.YtgiicohbigiapaaGreatQam
import Derived.Test.YtgiicohbigiapaaGreatQz1
import Derived.Test.YtgiicohbigiapaaGreatQz0
set_option maxHeartbeats 4000000
set_option maxRecDepth 100000
open Go.Proofs.Tryz Go.Proofs.YtgiicohbigiapaaGreat.ao List Nat Option
namespace Go.Proofs.YtgiicohbigiapaaGreat
open Go.RowKit
set_option linter.unusedVariables false
theorem ao1(s s1:ByteArray)(L v bj:Nat)(w:ai)(fi:s.toList.isEmpty=false)(bI:s.size=L)(bR:L<=2000)
  (fL:∀W:ai,(Instr.slice 9 (.string s) (some (.int .i64 1)) none none).run prog W=.ok (.string s1) W)
  (eV:∀W,Calls prog 25 #[.string s1] W λe bc=>e=.returned (.tuple #[.int .u64 v,.int .i64 bj])/\Below W.heap.size W bc)
  (m:Nat) (hm:m<=100000) (h:0<bj) (af:v<=m) (cj:Nat) (aw:cj=1+bj) (iI:cj<=L) (hidx:∀W:ai,(Instr.index 9 (.string s) (.int .i64 0)).run prog W=.ok (.int .u8 2) W) (s2:ByteArray) (tT:∀W:ai,(Instr.slice 9 (.string s) (some (.int .i64 cj)) none none).run prog W=.ok (.string s2) W) (U:ae) (z:Nat) (aO:0<z) (cn:Nat) (hq:cn=cj+z) (kk:cn<=L) (bp:∀W,Calls prog 76 #[.string s2] W λe bc=>(∃A c,e=.returned (.tuple #[.slice A U.length c,.int .i64 z])/\Reads bc A (aM U))/\Below W.heap.size W bc)
  (jd:ByteArray) (xm:∀W:ai,(Instr.slice 9 (.string s) (some (.int .i64 cn)) none none).run prog W=.ok (.string jd) W)
  (v2 fV:Nat) (nW:∀W,Calls prog 25 #[.string jd] W λe bc=>e=.returned (.tuple #[.int .u64 v2,.int .i64 fV])/\Below W.heap.size W bc) (hsz2:0<fV) (n5:Nat) (Nq:n5=cn+fV) (pW:Nat) (Nr:pW=n5+v2) (gT:pW<=L)
  (pY:ByteArray) (Hh:∀W:ai,(Instr.slice 9 (.string s) (some (.int .i64 n5)) (some (.int .i64 pW)) none).run prog W=.ok (.string pY) W)
  (hdec:∀W A c,Reads W A (aM U)->Calls prog 77 #[.slice A U.length c,.string pY,.int .i64 v] W λe bc=>Fy bc e none/\Below W.heap.size W bc) :
  Calls prog 47 #[.string s,.int .i64 m] w λe w'=>e=.returned (nc (none))/\Below w.heap.size w w':=by
 have z0:((bj:Int) == 0)=false:=cz
 have d0:decide ((m:Int)<0)=false:=aT;have d1:decide ((m:Int)<v)=false:=aT;have d2:decide ((1048576:Int)<v)=false:=aT;have sk:decide (m<v)=false:=aT;have bv:v<=100000:=by omega
 have i6:(1:Int)+bj=cj:=by omega
 have bP:cj<=2000:=by omega
 have dB:=I bp;have rX:=I nW;have Je:((z:Int) == 0)=false:=cz
 have kC:(cj:Int)+z=cn:=by omega
 have bq:cn<=2000:=by omega
 clear bp nW;have ace:((fV:Int) == 0)=false:=cz
 obtain⟨q,El⟩:∃q,q=L-cn-fV:=⟨_,rfl⟩;have zu:(L:Int)-cn-fV=q:=by omega
 have dq:decide ((q:Int)<v2)=false:=aT;have Ub:decide (q<v2)=false:=aT;have K4:q<=2000:=by omega
 have Ng:(cn:Int)+fV=n5:=by omega
 have eo:n5<=2000:=by omega
 have ajW:(n5:Int)+v2=pW:=by omega
 have pE:pW<=2000:=by omega
 have afR:v2<=2000:=by omega
 have dS:=I hdec;clear h aw iI af aO hq El Nq Nr hdec;have g9:=I eV;clear eV;go_enter func47,ntmps47
 go_wp2_with fail
 refine(g9.out _).mono ?_;rintro e au ⟨rfl,aH⟩;have aK:=I aH;clear aH g9;go_wp2_with fail
 refine(dB.out _).mono ?_;rintro e aB ⟨⟨A,c,rfl,e7⟩,aI⟩;have aV:=b9 aK aI;have kM:=I e7;clear aI aK dB e7;go_wp2_with fail
 refine(rX.out _).mono ?_;rintro e a1 ⟨rfl,bz⟩;have bE:=b9 aV bz;have uT:=I (c9 kM.out bz);clear bz aV rX kM;go_wp2_with fail
 refine(dS.out _ _ _ uT).mono ?_;rintro e bA ⟨⟨p4,c4,rfl⟩,a8⟩;have cx:=b9 bE a8;clear a8 bE dS uT;go_wp2;go_ret2;exact⟨rfl,cx⟩
theorem ao2(s s1:ByteArray)(L v bj:Nat)(w:ai)(fi:s.toList.isEmpty=false)(bI:s.size=L)(bR:L<=2000)
  (fL:∀W:ai,(Instr.slice 9 (.string s) (some (.int .i64 1)) none none).run prog W=.ok (.string s1) W)
  (eV:∀W,Calls prog 25 #[.string s1] W λe bc=>e=.returned (.tuple #[.int .u64 v,.int .i64 bj])/\Below W.heap.size W bc)
  (m:Nat) (hm:m<=100000) (h:0<bj) (af:v<=m) (cj:Nat) (aw:cj=1+bj) (iI:cj<=L) (hidx:∀W:ai,(Instr.index 9 (.string s) (.int .i64 0)).run prog W=.ok (.int .u8 2) W) (s2:ByteArray) (tT:∀W:ai,(Instr.slice 9 (.string s) (some (.int .i64 cj)) none none).run prog W=.ok (.string s2) W) (U:ae) (z:Nat) (aO:0<z) (cn:Nat) (hq:cn=cj+z) (kk:cn<=L) (bp:∀W,Calls prog 76 #[.string s2] W λe bc=>(∃A c,e=.returned (.tuple #[.slice A U.length c,.int .i64 z])/\Reads bc A (aM U))/\Below W.heap.size W bc)
  (jd:ByteArray) (xm:∀W:ai,(Instr.slice 9 (.string s) (some (.int .i64 cn)) none none).run prog W=.ok (.string jd) W)
  (v2 fV:Nat) (nW:∀W,Calls prog 25 #[.string jd] W λe bc=>e=.returned (.tuple #[.int .u64 v2,.int .i64 fV])/\Below W.heap.size W bc) (hsz2:0<fV) (n5:Nat) (Nq:n5=cn+fV) (pW:Nat) (Nr:pW=n5+v2) (gT:pW<=L)
  (pY:ByteArray) (Hh:∀W:ai,(Instr.slice 9 (.string s) (some (.int .i64 n5)) (some (.int .i64 pW)) none).run prog W=.ok (.string pY) W) (d:ae) (aG:∀y∈d,y<256)
  (hdec:∀W A c,Reads W A (aM U)->Calls prog 77 #[.slice A U.length c,.string pY,.int .i64 v] W λe bc=>Fy bc e (some d)/\Below W.heap.size W bc) :
  Calls prog 47 #[.string s,.int .i64 m] w λe w'=>e=.returned (nc (some (d,pW)))/\Below w.heap.size w w':=by
 have z0:((bj:Int) == 0)=false:=cz
 have d0:decide ((m:Int)<0)=false:=aT;have d1:decide ((m:Int)<v)=false:=aT;have d2:decide ((1048576:Int)<v)=false:=aT;have sk:decide (m<v)=false:=aT;have bv:v<=100000:=by omega
 have i6:(1:Int)+bj=cj:=by omega
 have bP:cj<=2000:=by omega
 have dB:=I bp;have rX:=I nW;have Je:((z:Int) == 0)=false:=cz
 have kC:(cj:Int)+z=cn:=by omega
 have bq:cn<=2000:=by omega
 clear bp nW;have ace:((fV:Int) == 0)=false:=cz
 obtain⟨q,El⟩:∃q,q=L-cn-fV:=⟨_,rfl⟩;have zu:(L:Int)-cn-fV=q:=by omega
 have dq:decide ((q:Int)<v2)=false:=aT;have Ub:decide (q<v2)=false:=aT;have K4:q<=2000:=by omega
 have Ng:(cn:Int)+fV=n5:=by omega
 have eo:n5<=2000:=by omega
 have ajW:(n5:Int)+v2=pW:=by omega
 have pE:pW<=2000:=by omega
 have afR:v2<=2000:=by omega
 have dS:=I hdec;clear h aw iI af aO hq El Nq Nr hdec;have kL:=I (λW A c h=>o3 W A c d aG h);clear aG;have g9:=I eV;clear eV;go_enter func47,ntmps47
 go_wp2_with fail
 refine(g9.out _).mono ?_;rintro e au ⟨rfl,aH⟩;have aK:=I aH;clear aH g9;go_wp2_with fail
 refine(dB.out _).mono ?_;rintro e aB ⟨⟨A,c,rfl,e7⟩,aI⟩;have aV:=b9 aK aI;have kM:=I e7;clear aI aK dB e7;go_wp2_with fail
 refine(rX.out _).mono ?_;rintro e a1 ⟨rfl,bz⟩;have bE:=b9 aV bz;have uT:=I (c9 kM.out bz);clear bz aV rX kM;go_wp2_with fail
 refine(dS.out _ _ _ uT).mono ?_;rintro e bA ⟨⟨p4,c4,rfl,_,j6⟩,a8⟩;have cx:=b9 bE a8;have hcv:=kL.out bA p4 c4 j6;clear a8 bE dS uT j6 kL;go_wp2;go_ret2;exact⟨rfl,cx⟩
theorem ams(bs:ae)(most:Int)(w:ai)(hl:bs.length<=1000)(av:∀x∈bs,x<256)(hm:most<=100000) :
  Calls prog 47 #[.string (strOf bs),.int .i64 most] w λe w'=>e=.returned (nc (jv bs most))/\Below w.heap.size w w':=by
 cases bs with
 | nil=>exact ao7 most w
 | cons k r=>
  rw[b1]at hl;have hk:=av k ea;have lO:∀x∈r,x<256:=λx ah=>av x (ew _ ah)
  have fi:(strOf (k :: r)).toList.isEmpty=false:=by rw[LA,bF (by simp)]
  have bI:(strOf (k :: r)).size=r.length+1:=by rw[cZ,b1]
  have fL:∀W:ai,(Instr.slice 9 (.string (strOf (k :: r))) (some (.int .i64 1)) none none).run prog W=.ok (.string (strOf r)) W:=λW=>pm (k :: r) 1 (by simp) W
  have hcut:∀(j:Nat),j<=r.length+1->∀W:ai,(Instr.slice 9 (.string (strOf (k :: r))) (some (.int .i64 j)) none none).run prog W=.ok (.string (strOf ((k :: r).drop j))) W:=λj ar W=>pm (k :: r) j (by rw[b1];exact ar) W
  have hmid:∀(i j:Nat),i<=j->j<=r.length+1->∀W:ai,(Instr.slice 9 (.string (strOf (k :: r))) (some (.int .i64 i)) (some (.int .i64 j)) none).run prog W=.ok (.string (strOf (((k :: r).drop i).take (j-i)))) W:=λi j vG ar W=>by
   rw[Zg (k :: r) i j vG (by rw[b1];exact ar) W,drop_take]
  have eV:=λW=>A3 r W (by omega) lO
  have hidx:∀W:ai,(Instr.index 9 (.string (strOf (k :: r))) (.int .i64 0)).run prog W=.ok (.int .u8 k) W:=λW=>pT (k :: r) 0 W (by simp) hk
  have ze:∀(j:Nat) (ar:j<(k :: r).length) (W:ai),(Instr.index 9 (.string (strOf (k :: r))) (.int .i64 j)).run prog W=.ok (.int .u8 (((k :: r)[j]:Nat):Int)) W:=λj ar W=>pT (k :: r) j W ar (av _ (b7 ar))
  have N1:=xh r [];have hdd:∀j,(k :: r).drop (1+j)=r.drop j:=λj=>by rw[Nat.add_comm,drop_succ_cons]
  have kz:(jv (k :: r) most)=if 0<(aW r).2/\((aW r).1:Int)<=most/\(aW r).1<=1048576 then(fx k (aW r).1 (r.drop (aW r).2)).map λq=>(q.1,1+(aW r).2+q.2)else none:=rfl
  rw[kz];clear kz;obtain⟨v,aE⟩:∃v,v=(aW r).1:=⟨_,rfl⟩;obtain⟨bj,aO⟩:∃z,z=(aW r).2:=⟨_,rfl⟩;rw[<-aO]at N1;rw[<-aE,<-aO]at eV ⊢;by_cases am:bj=0
  .rw[ay (by omega)];exact ao4 _ _ _ v bj w fi bI (by omega) fL eV most am
  by_cases hneg:most<0
  .rw[ay (by omega)];exact ao5 _ _ _ v bj w fi bI (by omega) fL eV most (by omega) hneg
  obtain⟨m,rfl⟩:=Int.eq_ofNat_of_zero_le (show 0<=most by omega);have ho:m<=100000:=by have:((m:Nat):Int)<=100000:=hm;omega
  by_cases X3:m<v
  .rw[ay (by rintro⟨_,h,_⟩;have:((v:Nat):Int)<=((m:Nat):Int):=h;omega)];exact ao6 _ _ _ v bj w fi bI (by omega) fL eV m ho (by omega) X3
  have hsz2:=(N1 (by omega)).2;rw[aA ⟨by omega,by show((v:Nat):Int)<=((m:Nat):Int);omega,by omega⟩];have iI:1+bj<=r.length+1:=by omega
  have fj:(r.drop bj).length=r.length-bj:=cC;have mf:∀x∈r.drop bj,x<256:=jw lO bj;clear N1 aE aO;by_cases bC:k=0
  .subst bC;by_cases zF:v<=(r.drop bj).length
   .rw[show fx 0 v (r.drop bj)=some ((r.drop bj).take v,v) by unfold fx;rw[aA rfl,aA zF]];refine aoV _ _ _ v bj w fi bI (by omega) fL eV m ho (by omega) (by omega) (1+bj) rfl iI hidx ((r.drop bj).take v) (1+bj+v) rfl (by omega) (λW=>?_);have h:=hmid (1+bj) (1+bj+v) (by omega) (by omega) W;rw[hdd,show 1+bj+v-(1+bj)=v by omega]at h;exact h
   .rw[show fx 0 v (r.drop bj)=none by unfold fx;rw[aA rfl,ay zF]];exact aoU _ _ _ v bj w fi bI (by omega) fL eV m ho (by omega) (by omega) (1+bj) rfl iI hidx (by omega)
  by_cases bf:k=1
  .subst bf;by_cases zF:0<(r.drop bj).length
   .have aw:1+bj<(1 :: r).length:=by rw[b1];omega
    have e:(r.drop bj)[0]?.getD 0=(1 :: r)[1+bj]:=by
     rw[<-hdd,getElem?_drop,ga,bH aw,b6]
    rw[show fx 1 v (r.drop bj)=some (List.replicate v ((1 :: r)[1+bj]),1) by unfold fx;rw[ay (by decide),aA rfl,aA zF,e]];exact aoX _ _ _ v bj w fi bI (by omega) fL eV m ho (by omega) (by omega) (1+bj) rfl iI hidx _ (av _ (b7 aw)) (1+bj+1) rfl (by rw[b1]at aw;exact aw) (λW=>ze (1+bj) aw W)
   .rw[show fx 1 v (r.drop bj)=none by unfold fx;rw[ay (by decide),aA rfl,ay zF]];exact aoW _ _ _ v bj w fi bI (by omega) fL eV m ho (by omega) (by omega) (1+bj) rfl iI hidx (by omega)
  by_cases bM:k=2
  .subst bM;have np:fx 2 v (r.drop bj)=match jc (r.drop bj)with
    | none=>none
    | some p=>(nN p.1 ((r.drop bj).drop p.2) v).map λq=>(q.1,p.2+q.2):=by
    unfold fx;rw[ay (by decide),ay (by decide),aA rfl];rfl
   rw[np];have tT:∀W:ai,(Instr.slice 9 (.string (strOf (2 :: r))) (some (.int .i64 ((1+bj:Nat):Int))) none none).run prog W=.ok (.string (strOf (r.drop bj))) W:=λW=>by
    have h:=hcut (1+bj) iI W;rw[hdd]at h;exact h
   have bp:=λW=>atq (r.drop bj) W (by omega) mf
   have eC:=Pm (r.drop bj);have mg:=Pn (r.drop bj);cases iF:jc (r.drop bj)with
   | none=>
    rw[iF]at bp;exact aoY _ _ _ v bj w fi bI (by omega) fL eV m ho (by omega) (by omega) (1+bj) rfl iI hidx _ tT bp
   | some p=>
    obtain⟨U,z⟩:=p;rw[iF]at bp;have aO:=eC U z iF;have bg:=mg (U,z) iF;dsimp only at bg ⊢;clear eC mg iF np;have xm:∀W:ai,(Instr.slice 9 (.string (strOf (2 :: r))) (some (.int .i64 ((1+bj+z:Nat):Int))) none none).run prog W=.ok (.string (strOf ((r.drop bj).drop z))) W:=λW=>by
     have h:=hcut (1+bj+z) (by omega) W;rw[jb,hdd,<-drop_drop,<-jb]at h;exact h
    have XW:((r.drop bj).drop z).length=r.length-bj-z:=by rw[cC,fj]
    have NK:∀x∈(r.drop bj).drop z,x<256:=jw mf z;have Hh:∀a b:Nat,1+bj+z+a+b<=r.length+1->∀W:ai,(Instr.slice 9 (.string (strOf (2 :: r))) (some (.int .i64 ((1+bj+z+a:Nat):Int))) (some (.int .i64 ((1+bj+z+a+b:Nat):Int))) none).run prog W=.ok (.string (strOf ((((r.drop bj).drop z).drop a).take b))) W:=λa b nl W=>by
     have h:=hmid (1+bj+z+a) (1+bj+z+a+b) (by omega) nl W;rw[show 1+bj+z+a+b-(1+bj+z+a)=b by omega]at h;have e:(2 :: r).drop (1+bj+z+a)=((r.drop bj).drop z).drop a:=by
      rw[drop_drop,drop_drop,<-hdd];congr 1
      omega
     rw[e]at h;exact h
    generalize (r.drop bj).drop z=u at *;have nW:=λW=>A3 u W (by omega) NK
    have Yo:=xh u [];unfold nN;obtain⟨v2,oB⟩:∃v,v=(aW u).1:=⟨_,rfl⟩;obtain⟨fV,bw⟩:∃z,z=(aW u).2:=⟨_,rfl⟩;rw[<-bw]at Yo;rw[<-oB,<-bw]at nW ⊢;have zy:∀W,Calls prog 76 #[.string (strOf (r.drop bj))] W λe bc=>(∃A c,e=.returned (.tuple #[.slice A U.length c,.int .i64 z])/\Reads bc A (aM U))/\Below W.heap.size W bc:=bp
    clear oB bw bp;by_cases ah3:fV=0
    .rw[ay (by omega)];exact aoZ _ _ _ v bj w fi bI (by omega) fL eV m ho (by omega) (by omega) (1+bj) rfl iI hidx _ tT U z (by omega) (1+bj+z) rfl (by omega) zy _ xm v2 fV nW ah3
    have gT:=(Yo (by omega)).2;by_cases ah7:v2<=u.length-fV
    .rw[aA ⟨by omega,ah7⟩];have hdec:=λW A c (h:Reads W A (aM U))=>ato A c v U ((u.drop fV).take v2) W bg (by omega) (by rw[cq,cC];omega) (λx ah=>NK x (mem_of_mem_drop (mem_of_mem_take ah))) h
     have ajh:=λd h=>G6 U ((u.drop fV).take v2) d v (λx ah=>NK x (mem_of_mem_drop (mem_of_mem_take ah))) h
     cases sD:oq U ((u.drop fV).take v2) v with
     | none=>
      rw[sD]at hdec;exact ao1 _ _ _ v bj w fi bI (by omega) fL eV m ho (by omega) (by omega) (1+bj) rfl iI hidx _ tT U z (by omega) (1+bj+z) rfl (by omega) zy _ xm v2 fV nW (by omega) (1+bj+z+fV) rfl (1+bj+z+fV+v2) rfl (by omega) _ (Hh fV v2 (by omega)) hdec
     | some d=>
      rw[sD]at hdec;have aG:=(ajh d sD).2.2;have h:=ao2 _ _ _ v bj w fi bI (by omega) fL eV m ho (by omega) (by omega) (1+bj) rfl iI hidx _ tT U z (by omega) (1+bj+z) rfl (by omega) zy _ xm v2 fV nW (by omega) (1+bj+z+fV) rfl (1+bj+z+fV+v2) rfl (by omega) _ (Hh fV v2 (by omega)) d (λy hy=>gV (aG y hy) bg.1) hdec;rw[show 1+bj+z+fV+v2=1+bj+(z+(fV+v2)) by omega]at h;exact h
    .rw[ay (by omega)];exact ao0 _ _ _ v bj w fi bI (by omega) fL eV m ho (by omega) (by omega) (1+bj) rfl iI hidx _ tT U z (by omega) (1+bj+z) rfl (by omega) zy _ xm v2 fV nW (by omega) (by omega) (by omega)
  rw[show fx k v (r.drop bj)=none by unfold fx;rw[ay bC,ay bf,ay bM]];exact ao3 _ _ _ v bj w fi bI (by omega) fL eV m ho (by omega) (by omega) (1+bj) rfl iI k (by omega) hk hidx
theorem agM(A:a7)(L c q r:Nat)(W:ai)(h:q<=r)(af:r<=L)(hc:L<=c):(Instr.slice 112 (.slice A L c) (some (.int .i64 q)) (some (.int .i64 r)) none).run prog W=.ok (.slice (nh A c q) (r-q) (c-q)) W:=by
 have h1:q<=c:=by omega
 have aq:r<=c:=by omega
 unfold nh;by_cases DY:c=q
 .subst DY;obtain rfl:c=r:=by omega
  rcases A with _ | a
  .go_simp
  .go_simp
 .rcases A with _ | a
  .go_simp
  .go_simp
def Js(w':ai)(e:Ending)(len:Nat):Option (ae×Nat×Nat)->Prop
 | none=>e=.returned (.tuple #[.slice none 0 0,.int .i64 0,.int .i64 0])
 | some t=>∃A c,e=.returned (.tuple #[.slice A t.1.length c,.int .i64 (t.2.1:Int),.int .i64 ((len:Int)-(t.2.2:Int))])/\Reads w' A (aM t.1)
theorem ah1(A:a7)(c N len:Nat)(w:ai)(hlen:len<=100000)(hc:len<=c)(hj:c<=maxLen)(aj:Reads w A (aM (ao.bitsOf N len))) :
  Calls prog 155 #[.slice A len c] w λe w'=>Js w' e len (ao.takeA N len)/\Below w.heap.size w w':=by
 obtain⟨i0,ax,bB,bK,bw⟩:=info_parts akT;obtain⟨r,hres⟩:∃r,r=ao.takeA N len:=⟨_,rfl⟩;rw[<-hres];have bt:=I hres;have aU:=I aj;clear hres aj;unfold maxLen at hj;by_cases aq:len<3
 .have ah:r=none:=by rw[bt.out];unfold ao.takeA;rw[aA aq]
  have b2:=I ah;clear ah;go_enter func155,ntmps155
  go_wp2;refine bodyPost_ret (v:=.tuple #[.slice none 0 0,.int .i64 0,.int .i64 0]) (by simp[results,results155,go_sem]) rfl ⟨by rw[b2.out];rfl,Below.refl _ _⟩
 have hcut:∀W,(Instr.slice 112 (.slice A len c) none (some (.int .i64 3)) none).run prog W=.ok (.slice A 3 c) W:=λW=>GV A len c 3 W (by omega) hc
 have jR:=I (IJ A 3 c (N%2^3) w (by omega) (mod_lt _ (by omega)) (Gw aU.out (by omega)));have akp:N%2^3<8:=mod_lt _ (by omega);obtain⟨v,aE⟩:∃v,v=N%2^3:=⟨_,rfl⟩;have fI:=I aE;rw[<-aE]at jR akp;clear aE;by_cases aJ:4<v
 .have ah:r=none:=by rw[bt.out];unfold ao.takeA;rw[ay aq,<-fI.out,aA aJ]
  have b2:=I ah;clear ah bt aU fI;go_enter func155,ntmps155
  go_wp2_with fail
  refine jR.out.mono ?_;rintro e w' ⟨rfl,rfl⟩;go_wp2;refine bodyPost_ret (v:=.tuple #[.slice none 0 0,.int .i64 0,.int .i64 0]) (by simp[results,results155,go_sem]) rfl ⟨by rw[b2.out];rfl,Below.refl _ _⟩
 have xE:r=(ao.takeN 256 (2^(5+v)) (N/2^3) (len-3)).map λt=>([]++t.1,5+v,t.2):=by
  rw[bt.out];unfold ao.takeA;rw[ay aq,<-fI.out,ay aJ];simp
 have cJ:2^(5+v)<=512:=dD (n:=2) (j:=9) (by omega) (by omega);have bI:∀w,Calls prog 82 #[.int .i64 (5+(v:Int))] w λe w'=>e=.returned (.int .i64 ((2^(5+v):Nat):Int))/\w=w':=λw=>by
  have h1:=vR ((5+v:Nat):Int) w (by omega);rw[cY]at h1;exact h1
 have eT:=I bI;generalize 2^(5+v)=P at *;have tE:=I xE;clear xE bt fI bI;go_enter func155,ntmps155
 go_wp2_with fail
 refine jR.out.mono ?_;rintro e w' ⟨rfl,rfl⟩;clear jR;go_wp2_with fail
 refine(eT.out w).mono ?_;rintro e w' ⟨rfl,rfl⟩;clear eT hcut;go_wp2;go_loopw [6,7,8] (λu a s wr=>∃(t R:Nat) (acc:ae),a=.int .i64 t/\s=.int .i64 R/\t<=len/\R<=512/\acc.length<=256/\Hid (r=(ao.takeN (256-acc.length) R (N/2^t) (len-t)).map λx=>(acc++x.1,5+v,x.2))/\Hid (wr.ownsRow w.heap.size 3 1 u acc.length (aM acc))/\Hid (Below w.heap.size w wr)) (λ_ a _ _=>len-(intOf a).toNat)
 case atStart=>exact⟨3,P,[],rfl,rfl,by omega,cJ,by simp,tE,I (World.ownsRow_nil _ _ _ _),I dQ⟩
 case round=>
  obtain⟨t,R,acc,rfl,rfl,fj,cS,dA,dS,hown,hbel⟩:=hrel;clear tE;rcases eq_zero_or_pos R with Bb | Bb
  .subst Bb;have hfin:r=some (acc,5+v,len-t):=by
    have h1:=dS.out;rw[h1];cases 256-acc.length<;>simp[ao.takeN]
   have ey:=I hfin;obtain⟨de,df,rfl,bp,_⟩:=kU hown.out;have dB:=I bp;clear hfin dS bp hown;go_wp2;refine bodyPost_ret (v:=.tuple #[.slice de acc.length df,.int .i64 (5+(v:Int)),.int .i64 t]) (by simp[results,results155,go_sem]) rfl ⟨by rw[ey.out];exact⟨de,df,by dsimp only;rw[show((5+v:Nat):Int)=5+(v:Int) by omega,show(len:Int)-((len-t:Nat):Int)=t by omega],dB.out⟩,hbel.out⟩
  .have j3:decide ((0:Int)<R)=true:=cl;have hd:=tn R Bb;have nv:=qN R 10 (by omega);have r8:=I (aaz R wr (by omega));obtain⟨de,df,rfl,bp,_⟩:=kU hown.out;have ri:IntKind.u32.wrap (R:Int)=R:=by simp[IntKind.wrap,IntKind.bits,IntKind.signed];omega
   have xK:∀f,256-acc.length=f+1->ao.takeN (256-acc.length) R (N/2^t) (len-t)=if len-t<ao.wid R then none else if R<N/2^t%2^ao.wid R then none else(ao.takeN f (R-N/2^t%2^ao.wid R) (N/2^t/2^ao.wid R) (len-t-ao.wid R)).map λx=>(N/2^t%2^ao.wid R :: x.1,x.2):=λf aL=>by
    rw[aL,ao.takeN,ay (by omega)]
   have aO:256-acc.length=0->ao.takeN (256-acc.length) R (N/2^t) (len-t)=none:=λaL=>by
    rw[aL,ao.takeN,ay (by omega)]
   have Da:=I xK;have iT:=I aO;clear xK aO bp;by_cases h1:len<t+ao.wid R
   .have ah:r=none:=by
     rw[dS.out];rcases eq_zero_or_pos (256-acc.length)with af | af
     .rw[iT.out af];rfl
     .rw[Da.out (256-acc.length-1) (by omega),aA (by omega)];rfl
    have b2:=I ah;clear ah dS Da iT;generalize ao.wid R=b at *;have ox:decide ((len:Int)<t+(b:Int))=true:=cl;go_wp2_with fail
    refine r8.out.mono ?_;rintro e w' ⟨rfl,rfl⟩;go_wp2;refine bodyPost_ret (v:=.tuple #[.slice none 0 0,.int .i64 0,.int .i64 0]) (by simp[results,results155,go_sem]) rfl ⟨by rw[b2.out];rfl,hbel⟩
   have ox:decide ((len:Int)<t+(ao.wid R:Int))=false:=aT;by_cases af:acc.length=256
   .have ah:r=none:=by
     rw[dS.out,iT.out (by omega)];rfl
    have b2:=I ah;clear ah dS Da iT hown;generalize ao.wid R=b at *;have sC:((acc.length:Int) == 256)=true:=by rw[af];rfl
    clear af;generalize acc.length=k at *;go_wp2_with fail
    refine r8.out.mono ?_;rintro e w' ⟨rfl,rfl⟩;go_wp2;refine bodyPost_ret (v:=.tuple #[.slice none 0 0,.int .i64 0,.int .i64 0]) (by simp[results,results155,go_sem]) rfl ⟨by rw[b2.out];rfl,hbel⟩
   have sC:((acc.length:Int) == 256)=false:=cz
   have aG:=dS.out;rw[Da.out (256-acc.length-1) (by omega),ay (by omega)]at aG;have aiV:∀W,(Instr.slice 112 (.slice A len c) (some (.int .i64 t)) (some (.int .i64 ((t:Int)+(ao.wid R:Int)))) none).run prog W=.ok (.slice (nh A c t) (ao.wid R) (c-t)) W:=λW=>by
    have aR:=agM A len c t (t+ao.wid R) W (by omega) (by omega) hc;rw[Nat.add_sub_cancel_left]at aR;exact aR
   have jR:=IJ (nh A c t) (ao.wid R) (c-t) (N/2^t%2^ao.wid R) wr (by omega) (mod_lt _ (eW _)) (Gw (K1 (c9 aU.out hbel.out) fj hc) (by omega));have aww:N/2^t%2^ao.wid R<1024:=gV (mod_lt _ (eW _)) (dD (n:=2) (j:=10) (by omega) nv);rw[km,<-dM]at aG;have ez:=I jR;have yk:=I aG;clear aG jR dS Da iT;generalize N/2^t%2^ao.wid R=x at *;generalize ao.wid R=b at *;by_cases aJ:R<x
   .have ah:r=none:=by
     rw[yk.out,aA aJ];rfl
    have b2:=I ah;have VQ:decide (R<x)=true:=bG aJ;clear ah yk hown;generalize acc.length=k at *;go_wp2_with fail
    refine r8.out.mono ?_;rintro e w' ⟨rfl,rfl⟩;go_wp2_with fail
    refine ez.out.mono ?_;rintro e w' ⟨rfl,rfl⟩;go_wp2;refine bodyPost_ret (v:=.tuple #[.slice none 0 0,.int .i64 0,.int .i64 0]) (by simp[results,results155,go_sem]) rfl ⟨by rw[b2.out];rfl,hbel⟩
   have VQ:decide (R<x)=false:=bF aJ;have nG:Hid (r=(ao.takeN (256-(acc++[x]).length) (R-x) (N/2^(t+b)) (len-(t+b))).map λy=>((acc++[x])++y.1,5+v,y.2)):=I (by
    rw[yk.out,ay aJ,show 256-(acc++[x]).length=256-acc.length-1 by simp;omega,show len-(t+b)=len-t-b by omega];cases ao.takeN (256-acc.length-1) (R-x) (N/2^(t+b)) (len-t-b)<;>simp)
   clear yk;go_wp2_with fail
   refine r8.out.mono ?_;rintro e w' ⟨rfl,rfl⟩;go_wp2_with fail
   refine ez.out.mono ?_;rintro e w' ⟨rfl,rfl⟩;clear r8 ez;go_wp2_with (at_builtin;refine wpList_append_own _ rfl _ _ 112 rfl w.heap.size 3 i0 (.int .i64 0) 1 8 underlying112 ax bB bK bw rfl (by decide) _ _ _ rfl (hown.out.alloc _) ⟨wr.heap.size,0,none⟩ 1 1 [.int .i64 x] rfl rfl ?d1 ?d2 ?d3 ?d4 ?d5 ?_)
   case d1=>
    intro j u ar;match j,ar with
    | 0,ar=>simp at ar;subst ar;simp[Addr.add]
   case d2=>intro u hu;simp at hu;subst hu;rfl
   case d3=>unfold maxLen;omega
   case d4=>omega
   case d5=>have:=hbel.out.size;simp;omega
   intro gZ aB hown2 rm _;have jy:Below w.heap.size w aB:=(hbel.out.alloc hbel.out.size _).grown rm (by have:=hbel.out.size;simp;omega) (λx e=>(hown.out.lt x e).1);have e:aM acc++[Value.int .i64 x]=aM (acc++[x]):=by simp[aM]
   have e2:acc.length+1=(acc++[x]).length:=by simp
   rw[e,e2]at hown2;have mv:=I hown2;have rU:=I jy;have aiF:(acc++[x]).length<=256:=by simp;omega
   clear rm hown2 jy e e2 hown hbel j3 ox sC VQ ri;clear aiV;go_wp2;go_roundw
   case rel=>exact⟨t+b,R-x,acc++[x],by go_num,by go_num,by omega,by omega,aiF,nG,mv,rU⟩
   case measure=>simp[intOf];omega
end Go.Proofs.YtgiicohbigiapaaGreat
