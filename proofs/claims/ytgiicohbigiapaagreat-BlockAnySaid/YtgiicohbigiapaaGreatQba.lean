/- Contracts. -/
import Derived.Test.YtgiicohbigiapaaGreatQay
import Derived.Test.YtgiicohbigiapaaGreatQz1
import Derived.Test.YtgiicohbigiapaaGreatQz0
set_option maxHeartbeats 4000000
set_option maxRecDepth 100000
open Go.Proofs.Tryz Go.Proofs.YtgiicohbigiapaaGreat.ao List Nat Option
namespace Go.Proofs.YtgiicohbigiapaaGreat
open Go.RowKit
theorem Tf(n:Nat)(t:ae):fx 0 n t=if n<=t.length then some (t.take n,n)else none:=by
 unfold fx;rw[aA rfl]
theorem Tg(n:Nat)(t:ae):fx 1 n t=if 0<t.length then some (List.replicate n (t[0]?.getD 0),1)else none:=by
 unfold fx;rw[ay (by decide),aA rfl]
theorem afx(k n:Nat)(t:ae)(h:2<k):fx k n t=none:=by
 unfold fx;rw[ay (by omega),ay (by omega),ay (by omega)]
theorem Y4(b:Nat)(k:Int)(st:Left)(most:Int)(w:ai)
  (eh:Calls prog 39 #[.pointer (some ⟨b,0,none⟩),.int .i64 1] w λe w'=>e=.returned (.int .u64 k)/\bJ w' b st/\w.grownBy w' (some b))
  (hint:∀W,bJ W b st->Calls prog 40 #[.pointer (some ⟨b,0,none⟩),.int .i64 (min most 1048576)] W λe bc=>e=.returned (.int .i64 0)/\bJ bc b none/\W.grownBy bc (some b)) :
  Calls prog 72 #[.pointer (some ⟨b,0,none⟩),.int .i64 most] w λe w'=>e=.returned (.tuple #[.string (strOf []),.bool false])/\w.grownBy w' (some b):=by
 have gq:=I eh;have Hint:=I hint;clear eh hint;go_enter func72,ntmps72
 go_wp2_with fail
 refine gq.out.mono ?_;rintro e au ⟨rfl,jP,aZ⟩;have cv:=I aZ;have lZ:=I (Hint.out au jP);clear jP aZ gq Hint;go_wp2_with fail
 refine lZ.out.mono ?_;rintro e aB ⟨rfl,gj,bl⟩;have cN:=I (ei cv.out bl);have kK:=I gj;have aV:=I (gB b _ aB gj);clear gj bl cv lZ;go_wp2_with fail
 refine aV.out.mono ?_;rintro e a1 ⟨rfl,rfl⟩;clear aV;clear kK;go_wp2;go_ret2;exact⟨rfl,cN⟩
theorem amh(b n:Nat)(t r:ae)(most:Int)(w:ai)(az:n<=t.length)
  (eh:Calls prog 39 #[.pointer (some ⟨b,0,none⟩),.int .i64 1] w λe w'=>e=.returned (.int .u64 0)/\bJ w' b (some r)/\w.grownBy w' (some b))
  (hint:∀W,bJ W b (some r)->Calls prog 40 #[.pointer (some ⟨b,0,none⟩),.int .i64 (min most 1048576)] W λe bc=>e=.returned (.int .i64 n)/\bJ bc b (some t)/\W.grownBy bc (some b)) :
  Calls prog 72 #[.pointer (some ⟨b,0,none⟩),.int .i64 most] w λe w'=>qf w' b t e (fx 0 n t)/\w.grownBy w' (some b):=by
 have gq:=I eh;have Hint:=I hint;clear eh hint;have ef:=I (λW (h:bJ W b (some t))=>tc b (some t) (n:Int) W h);rw[cY,E4 n t az]at ef;have tu:=I ((Tf n t).trans (aA az));clear az;go_enter func72,ntmps72
 go_wp2_with fail
 refine gq.out.mono ?_;rintro e au ⟨rfl,jP,aZ⟩;have cv:=I aZ;have lZ:=I (Hint.out au jP);clear jP aZ gq Hint;go_wp2_with fail
 refine lZ.out.mono ?_;rintro e aB ⟨rfl,gj,bl⟩;have cN:=I (ei cv.out bl);have kK:=I gj;have aV:=I (gB b _ aB gj);clear gj bl cv lZ;go_wp2_with fail
 refine aV.out.mono ?_;rintro e a1 ⟨rfl,rfl⟩;clear aV;have aU:=I (ef.out aB kK);clear kK ef;go_wp2_with fail
 refine aU.out.mono ?_;rintro e bA ⟨rfl,pb,cA⟩;have gQ:=I (ei cN.out cA);have tw:=I pb;have cx:=I (gB b _ bA pb);clear pb cA cN aU;generalize ap:strOf (t.take n)=rE at *;have bU:=I ap;clear ap;go_wp2_with fail
 refine cx.out.mono ?_;rintro e dG ⟨rfl,rfl⟩;clear cx;go_wp2;go_ret2;rw[tu.out,<-bU.out];exact⟨⟨rfl,tw⟩,gQ⟩
theorem amg(b n:Nat)(t r:ae)(most:Int)(w:ai)(az:¬n<=t.length)
  (eh:Calls prog 39 #[.pointer (some ⟨b,0,none⟩),.int .i64 1] w λe w'=>e=.returned (.int .u64 0)/\bJ w' b (some r)/\w.grownBy w' (some b))
  (hint:∀W,bJ W b (some r)->Calls prog 40 #[.pointer (some ⟨b,0,none⟩),.int .i64 (min most 1048576)] W λe bc=>e=.returned (.int .i64 n)/\bJ bc b (some t)/\W.grownBy bc (some b)) :
  Calls prog 72 #[.pointer (some ⟨b,0,none⟩),.int .i64 most] w λe w'=>qf w' b t e (fx 0 n t)/\w.grownBy w' (some b):=by
 have gq:=I eh;have Hint:=I hint;clear eh hint;have ef:=I (λW (h:bJ W b (some t))=>tc b (some t) (n:Int) W h);rw[cY,E3 n t az]at ef;have tu:=I ((Tf n t).trans (ay az));clear az;go_enter func72,ntmps72
 go_wp2_with fail
 refine gq.out.mono ?_;rintro e au ⟨rfl,jP,aZ⟩;have cv:=I aZ;have lZ:=I (Hint.out au jP);clear jP aZ gq Hint;go_wp2_with fail
 refine lZ.out.mono ?_;rintro e aB ⟨rfl,gj,bl⟩;have cN:=I (ei cv.out bl);have kK:=I gj;have aV:=I (gB b _ aB gj);clear gj bl cv lZ;go_wp2_with fail
 refine aV.out.mono ?_;rintro e a1 ⟨rfl,rfl⟩;clear aV;have aU:=I (ef.out aB kK);clear kK ef;go_wp2_with fail
 refine aU.out.mono ?_;rintro e bA ⟨rfl,pb,cA⟩;have gQ:=I (ei cN.out cA);have tw:=I pb;have cx:=I (gB b _ bA pb);clear pb cA cN aU;go_wp2_with fail
 refine cx.out.mono ?_;rintro e dG ⟨rfl,rfl⟩;clear cx;go_wp2;go_ret2;rw[tu.out];exact⟨rfl,gQ⟩
theorem amj(b x n:Nat)(t r:ae)(most:Int)(w:ai)(az:n<=1048576)(u:ae)(aC:t=x :: u)
  (eh:Calls prog 39 #[.pointer (some ⟨b,0,none⟩),.int .i64 1] w λe w'=>e=.returned (.int .u64 1)/\bJ w' b (some r)/\w.grownBy w' (some b))
  (hint:∀W,bJ W b (some r)->Calls prog 40 #[.pointer (some ⟨b,0,none⟩),.int .i64 (min most 1048576)] W λe bc=>e=.returned (.int .i64 n)/\bJ bc b (some t)/\W.grownBy bc (some b)) :
  Calls prog 72 #[.pointer (some ⟨b,0,none⟩),.int .i64 most] w λe w'=>qf w' b t e (fx 1 n t)/\w.grownBy w' (some b):=by
 have gq:=I eh;have Hint:=I hint;clear eh hint;have ef:=I (λW (h:bJ W b (some t))=>tc b (some t) 1 W h);rw[show(1:Int).toNat=1 from rfl,E4 1 t (by rw[aC];simp)]at ef;have tu:=I ((Tg n t).trans (aA (by rw[aC];simp)));have aF:t.take 1=[x]:=by rw[aC];rfl
 have e2:t[0]?.getD 0=x:=by rw[aC];rfl
 rw[aF]at ef;rw[e2]at tu;have Hrep:=I (λW=>PJ x n W (by omega));clear az aC aF e2;generalize strOf [x]=s1 at *;go_enter func72,ntmps72
 go_wp2_with fail
 refine gq.out.mono ?_;rintro e au ⟨rfl,jP,aZ⟩;have cv:=I aZ;have lZ:=I (Hint.out au jP);clear jP aZ gq Hint;go_wp2_with fail
 refine lZ.out.mono ?_;rintro e aB ⟨rfl,gj,bl⟩;have cN:=I (ei cv.out bl);have kK:=I gj;have aV:=I (gB b _ aB gj);clear gj bl cv lZ;go_wp2_with fail
 refine aV.out.mono ?_;rintro e a1 ⟨rfl,rfl⟩;clear aV;have aU:=I (ef.out aB kK);clear kK ef;go_wp2_with fail
 refine aU.out.mono ?_;rintro e bA ⟨rfl,pb,cA⟩;have gQ:=I (ei cN.out cA);have tw:=I pb;have cx:=I (gB b _ bA pb);clear pb cA cN aU;generalize ap:strOf (List.replicate n x)=rE at *;have bU:=I ap;clear ap;go_wp2_with fail
 refine(Hrep.out _).mono ?_;rintro e dG ⟨rfl,cL⟩;have mZ:=I (ei gQ.out (dr cL (some b)));have FM:=I (tw.out.below cL);have dh:=I (gB b _ dG FM);clear cL gQ tw cx Hrep;go_wp2_with fail
 refine dh.out.mono ?_;rintro e dp ⟨rfl,rfl⟩;clear dh;go_wp2;go_ret2;rw[tu.out,<-bU.out];exact⟨⟨rfl,FM⟩,mZ⟩
theorem ami(b n:Nat)(t r:ae)(most:Int)(w:ai)(az:n<=1048576)(aC:t=[])
  (eh:Calls prog 39 #[.pointer (some ⟨b,0,none⟩),.int .i64 1] w λe w'=>e=.returned (.int .u64 1)/\bJ w' b (some r)/\w.grownBy w' (some b))
  (hint:∀W,bJ W b (some r)->Calls prog 40 #[.pointer (some ⟨b,0,none⟩),.int .i64 (min most 1048576)] W λe bc=>e=.returned (.int .i64 n)/\bJ bc b (some t)/\W.grownBy bc (some b)) :
  Calls prog 72 #[.pointer (some ⟨b,0,none⟩),.int .i64 most] w λe w'=>qf w' b t e (fx 1 n t)/\w.grownBy w' (some b):=by
 have gq:=I eh;have Hint:=I hint;clear eh hint;have ef:=I (λW (h:bJ W b (some t))=>tc b (some t) 1 W h);rw[show(1:Int).toNat=1 from rfl,E3 1 t (by rw[aC];simp)]at ef;have tu:=I ((Tg n t).trans (ay (by rw[aC];simp)));have Hrep:=I (λW=>aa2 n W (by omega));clear az aC;generalize Xy:strOf []=aaB at *;have adX:=I Xy;clear Xy;go_enter func72,ntmps72
 go_wp2_with fail
 refine gq.out.mono ?_;rintro e au ⟨rfl,jP,aZ⟩;have cv:=I aZ;have lZ:=I (Hint.out au jP);clear jP aZ gq Hint;go_wp2_with fail
 refine lZ.out.mono ?_;rintro e aB ⟨rfl,gj,bl⟩;have cN:=I (ei cv.out bl);have kK:=I gj;have aV:=I (gB b _ aB gj);clear gj bl cv lZ;go_wp2_with fail
 refine aV.out.mono ?_;rintro e a1 ⟨rfl,rfl⟩;clear aV;have aU:=I (ef.out aB kK);clear kK ef;go_wp2_with fail
 refine aU.out.mono ?_;rintro e bA ⟨rfl,pb,cA⟩;have gQ:=I (ei cN.out cA);have tw:=I pb;have cx:=I (gB b _ bA pb);clear pb cA cN aU;go_wp2_with fail
 refine(Hrep.out _).mono ?_;rintro e dG ⟨rfl,cL⟩;have mZ:=I (ei gQ.out (dr cL (some b)));have FM:=I (tw.out.below cL);have dh:=I (gB b _ dG FM);clear cL gQ tw cx Hrep;go_wp2_with fail
 refine dh.out.mono ?_;rintro e dp ⟨rfl,rfl⟩;clear dh;go_wp2;go_ret2;rw[tu.out,<-adX.out];exact⟨rfl,mZ⟩
theorem amk(b n:Nat)(t r:ae)(most:Int)(w:ai)(az:n<=1048576)(aC:t.length<=1000)(av:∀x∈t,x<256)
  (eh:Calls prog 39 #[.pointer (some ⟨b,0,none⟩),.int .i64 1] w λe w'=>e=.returned (.int .u64 2)/\bJ w' b (some r)/\w.grownBy w' (some b))
  (hint:∀W,bJ W b (some r)->Calls prog 40 #[.pointer (some ⟨b,0,none⟩),.int .i64 (min most 1048576)] W λe bc=>e=.returned (.int .i64 n)/\bJ bc b (some t)/\W.grownBy bc (some b)) :
  Calls prog 72 #[.pointer (some ⟨b,0,none⟩),.int .i64 most] w λe w'=>qf w' b t e (fx 2 n t)/\w.grownBy w' (some b):=by
 have gq:=I eh;have Hint:=I hint;clear eh hint;have m8:=I (λW (h:bJ W b (some t))=>amb b n t W aC av az h);clear az aC av;generalize bu:fx 2 n t=B at *;go_enter func72,ntmps72
 go_wp2_with fail
 refine gq.out.mono ?_;rintro e au ⟨rfl,jP,aZ⟩;have cv:=I aZ;have lZ:=I (Hint.out au jP);clear jP aZ gq Hint;go_wp2_with fail
 refine lZ.out.mono ?_;rintro e aB ⟨rfl,gj,bl⟩;have cN:=I (ei cv.out bl);have kK:=I gj;have aV:=I (gB b _ aB gj);clear gj bl cv lZ;go_wp2_with fail
 refine aV.out.mono ?_;rintro e a1 ⟨rfl,rfl⟩;clear aV;have At:=I (m8.out aB kK);clear kK m8;go_wp2_with fail
 refine At.out.mono ?_;rintro e bA ⟨aw,cA⟩;have gQ:=I (ei cN.out cA);clear cA cN At;have gF:=I aw;clear aw;cases B with
 | none=>
  have he:=gF.out;unfold qf at he;subst he;clear gF;go_wp2;go_ret2;exact⟨rfl,gQ⟩
 | some q=>
  have he:=gF.out;unfold qf at he;obtain⟨he,hc⟩:=he;have gn:=I hc;subst he;clear gF hc;generalize ap:strOf q.1=rE at *;have bU:=I ap;clear ap;go_wp2;go_ret2;exact⟨⟨by rw[bU.out];rfl,gn⟩,gQ⟩
theorem aml(b k n:Nat)(t r:ae)(most:Int)(w:ai)(hk:2<k)(fy:k<256)
  (eh:Calls prog 39 #[.pointer (some ⟨b,0,none⟩),.int .i64 1] w λe w'=>e=.returned (.int .u64 k)/\bJ w' b (some r)/\w.grownBy w' (some b))
  (hint:∀W,bJ W b (some r)->Calls prog 40 #[.pointer (some ⟨b,0,none⟩),.int .i64 (min most 1048576)] W λe bc=>e=.returned (.int .i64 n)/\bJ bc b (some t)/\W.grownBy bc (some b)) :
  Calls prog 72 #[.pointer (some ⟨b,0,none⟩),.int .i64 most] w λe w'=>qf w' b t e (fx k n t)/\w.grownBy w' (some b):=by
 have gq:=I eh;have Hint:=I hint;clear eh hint;have tu:=I (afx k n t hk);have bC:((k:Int) == 0)=false:=cz
 have bf:((k:Int) == 1)=false:=cz
 have bM:((k:Int) == 2)=false:=cz
 clear hk;go_enter func72,ntmps72
 go_wp2_with fail
 refine gq.out.mono ?_;rintro e au ⟨rfl,jP,aZ⟩;have cv:=I aZ;have lZ:=I (Hint.out au jP);clear jP aZ gq Hint;go_wp2_with fail
 refine lZ.out.mono ?_;rintro e aB ⟨rfl,gj,bl⟩;have cN:=I (ei cv.out bl);have kK:=I gj;have aV:=I (gB b _ aB gj);clear gj bl cv lZ;go_wp2_with fail
 refine aV.out.mono ?_;rintro e a1 ⟨rfl,rfl⟩;clear aV;clear kK;go_wp2;go_ret2;rw[tu.out];exact⟨rfl,cN⟩
theorem al1{w':ai}{b k j:Nat}{r:ae}{e:Ending}{o:Option (ae×Nat)}(h:qf w' b (r.drop j) e o):qf w' b (k :: r) e (o.map λq=>(q.1,1+j+q.2)):=by
 cases o with
 | none=>exact h
 | some q=>
  refine⟨h.1,?_⟩;have af:=h.2;rw[drop_drop]at af;show bJ w' b (some ((k :: r).drop (1+j+q.2)));rw[show 1+j+q.2=(j+q.2)+1 by omega,drop_succ_cons];exact af
theorem amm(b:Nat)(bs:ae)(most:Int)(w:ai)(hl:bs.length<=1000)(av:∀x∈bs,x<256)(hm:en most)(h:bJ w b (some bs)) :
  Calls prog 72 #[.pointer (some ⟨b,0,none⟩),.int .i64 most] w λe w'=>qf w' b bs e (jv bs most)/\w.grownBy w' (some b):=by
 have ho:-9223372036854775808<=min most 1048576/\min most 1048576<=9223372036854775807:=by
  obtain⟨h1,af⟩:=hm;omega
 have eh:=E6 b (some bs) 1 w (by omega) (by omega) ⟨av,by omega⟩ h;cases bs with
 | nil=>
  rw[show eR (hi 1) (some [])=([],none)from rfl]at eh;exact Y4 b _ none most w eh (λW bg=>B5 b none (min most 1048576) W ho.1 ho.2 trivial bg)
 | cons k r=>
  rw[Ha]at eh;dsimp only at eh;rw[show bd [k]=k by simp[bd]]at eh;have hk:=av k ea;have lO:∀x∈r,x<256:=λx ah=>av x (ew _ ah)
  rw[b1]at hl;have hint:=λW (bg:bJ W b (some r))=>B5 b (some r) (min most 1048576) W ho.1 ho.2 ⟨lO,by omega⟩ bg
  by_cases hc:0<(aW r).2/\((aW r).1:Int)<=min most 1048576
  .rw[xP _ r hc.1 hc.2]at hint;dsimp only at hint;have az:(aW r).1<=1048576:=by omega
   have e:jv (k :: r) most=(fx k (aW r).1 (r.drop (aW r).2)).map λq=>(q.1,1+(aW r).2+q.2):=by
    unfold jv;dsimp only;rw[aA ⟨hc.1,by omega,az⟩]
   rw[e];have key:Calls prog 72 #[.pointer (some ⟨b,0,none⟩),.int .i64 most] w λe w'=>qf w' b (r.drop (aW r).2) e (fx k (aW r).1 (r.drop (aW r).2))/\w.grownBy w' (some b):=by
    have kz:(r.drop (aW r).2).length<=1000:=by rw[cC];omega
    have qs:∀x∈r.drop (aW r).2,x<256:=jw lO _;clear e hc;generalize (aW r).1=n at *;generalize r.drop (aW r).2=t at *;match k,hk,eh with
    | 0,_,eh=>
     by_cases am:n<=t.length
     .exact amh b n t r most w am eh hint
     .exact amg b n t r most w am eh hint
    | 1,_,eh=>
     cases t with
     | nil=>exact ami b n [] r most w az rfl eh hint
     | cons x u=>exact amj b x n (x :: u) r most w az u rfl eh hint
    | 2,_,eh=>exact amk b n t r most w az kz qs eh hint
    | k+3,hk,eh=>exact aml b (k+3) n t r most w (by omega) hk eh hint
   exact key.mono λe w' ⟨h1,af⟩=>⟨al1 h1,af⟩
  .rw[BN _ r hc]at hint;have e:jv (k :: r) most=none:=by
    unfold jv;dsimp only;rw[ay];rintro⟨h1,af,aq⟩;exact hc ⟨h1,by omega⟩
   rw[e];exact Y4 b _ (some r) most w eh hint
end Go.Proofs.YtgiicohbigiapaaGreat
