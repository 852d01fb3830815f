/- Contracts. -/
import Derived.Test.YtgiicohbigiapaaGreatOay
import Derived.Test.YtgiicohbigiapaaGreatOz1
import Derived.Test.YtgiicohbigiapaaGreatOz0
set_option maxHeartbeats 4000000
set_option maxRecDepth 100000
open Go.Proofs.Tryz Go.Proofs.YtgiicohbigiapaaGreat.am List Nat Option
namespace Go.Proofs.YtgiicohbigiapaaGreat
open Go.RowKit
theorem Rj(n:Nat)(t:ae):fr 0 n t=if n<=t.length then some (t.take n,n)else none:=by
 unfold fr;rw[aB rfl]
theorem Rk(n:Nat)(t:ae):fr 1 n t=if 0<t.length then some (List.replicate n (t[0]?.getD 0),1)else none:=by
 unfold fr;rw[az (by decide),aB rfl]
theorem afN(k n:Nat)(t:ae)(h:2<k):fr k n t=none:=by
 unfold fr;rw[az (by omega),az (by omega),az (by omega)]
theorem Xc(b:Nat)(k:Int)(st:Left)(most:Int)(w:ah)
  (dZ:Calls prog 39 #[.pointer (some ⟨b,0,none⟩),.int .i64 1] w λe w'=>e=.returned (.int .u64 k)/\bK w' b st/\w.grownBy w' (some b))
  (hint:∀W,bK W b st->Calls prog 40 #[.pointer (some ⟨b,0,none⟩),.int .i64 (min most 1048576)] W λe bb=>e=.returned (.int .i64 0)/\bK bb b none/\W.grownBy bb (some b)) :
  Calls prog 72 #[.pointer (some ⟨b,0,none⟩),.int .i64 most] w λe w'=>e=.returned (.tuple #[.string (strOf []),.bool false])/\w.grownBy w' (some b):=by
 have jI:=I dZ;have Hint:=I hint;clear dZ hint;go_enter func72,ntmps72
 go_wp2_with fail
 refine jI.out.mono ?_;rintro e aw ⟨rfl,jB,a1⟩;have dm:=I a1;have pV:=I (Hint.out aw jB);clear jB a1;go_wp2_with fail
 refine pV.out.mono ?_;rintro e aC ⟨rfl,gb,bp⟩;have du:=I (ef dm.out bp);have pd:=I gb;have bm:=I (gu b _ aC gb);clear gb bp;go_wp2_with fail
 refine bm.out.mono ?_;rintro e a6 ⟨rfl,rfl⟩;go_wp2;go_ret2;exact⟨rfl,du⟩
theorem amE(b n:Nat)(t r:ae)(most:Int)(w:ah)(aA:n<=t.length)
  (dZ:Calls prog 39 #[.pointer (some ⟨b,0,none⟩),.int .i64 1] w λe w'=>e=.returned (.int .u64 0)/\bK w' b (some r)/\w.grownBy w' (some b))
  (hint:∀W,bK W b (some r)->Calls prog 40 #[.pointer (some ⟨b,0,none⟩),.int .i64 (min most 1048576)] W λe bb=>e=.returned (.int .i64 n)/\bK bb b (some t)/\W.grownBy bb (some b)) :
  Calls prog 72 #[.pointer (some ⟨b,0,none⟩),.int .i64 most] w λe w'=>pZ w' b t e (fr 0 n t)/\w.grownBy w' (some b):=by
 have jI:=I dZ;have Hint:=I hint;clear dZ hint;have fD:=I (λW (h:bK W b (some t))=>sC b (some t) (n:Int) W h);rw[cX,Ec n t aA]at fD;have sS:=I ((Rj n t).trans (aB aA));clear aA;go_enter func72,ntmps72
 go_wp2_with fail
 refine jI.out.mono ?_;rintro e aw ⟨rfl,jB,a1⟩;have dm:=I a1;have pV:=I (Hint.out aw jB);clear jB a1;go_wp2_with fail
 refine pV.out.mono ?_;rintro e aC ⟨rfl,gb,bp⟩;have du:=I (ef dm.out bp);have pd:=I gb;have bm:=I (gu b _ aC gb);clear gb bp;go_wp2_with fail
 refine bm.out.mono ?_;rintro e a6 ⟨rfl,rfl⟩;have bj:=I (fD.out aC pd);go_wp2_with fail
 refine bj.out.mono ?_;rintro e bH ⟨rfl,oS,cx⟩;have hQ:=I (ef du.out cx);have vJ:=I oS;have dt:=I (gu b _ bH oS);clear oS cx;generalize ap:strOf (t.take n)=q6 at *;have ca:=I ap;clear ap;go_wp2_with fail
 refine dt.out.mono ?_;rintro e dp ⟨rfl,rfl⟩;go_wp2;go_ret2;rw[sS.out,<-ca.out];exact⟨⟨rfl,vJ⟩,hQ⟩
theorem amD(b n:Nat)(t r:ae)(most:Int)(w:ah)(aA:¬n<=t.length)
  (dZ:Calls prog 39 #[.pointer (some ⟨b,0,none⟩),.int .i64 1] w λe w'=>e=.returned (.int .u64 0)/\bK w' b (some r)/\w.grownBy w' (some b))
  (hint:∀W,bK W b (some r)->Calls prog 40 #[.pointer (some ⟨b,0,none⟩),.int .i64 (min most 1048576)] W λe bb=>e=.returned (.int .i64 n)/\bK bb b (some t)/\W.grownBy bb (some b)) :
  Calls prog 72 #[.pointer (some ⟨b,0,none⟩),.int .i64 most] w λe w'=>pZ w' b t e (fr 0 n t)/\w.grownBy w' (some b):=by
 have jI:=I dZ;have Hint:=I hint;clear dZ hint;have fD:=I (λW (h:bK W b (some t))=>sC b (some t) (n:Int) W h);rw[cX,Eb n t aA]at fD;have sS:=I ((Rj n t).trans (az aA));clear aA;go_enter func72,ntmps72
 go_wp2_with fail
 refine jI.out.mono ?_;rintro e aw ⟨rfl,jB,a1⟩;have dm:=I a1;have pV:=I (Hint.out aw jB);clear jB a1;go_wp2_with fail
 refine pV.out.mono ?_;rintro e aC ⟨rfl,gb,bp⟩;have du:=I (ef dm.out bp);have pd:=I gb;have bm:=I (gu b _ aC gb);clear gb bp;go_wp2_with fail
 refine bm.out.mono ?_;rintro e a6 ⟨rfl,rfl⟩;have bj:=I (fD.out aC pd);go_wp2_with fail
 refine bj.out.mono ?_;rintro e bH ⟨rfl,oS,cx⟩;have hQ:=I (ef du.out cx);have vJ:=I oS;have dt:=I (gu b _ bH oS);clear oS cx;go_wp2_with fail
 refine dt.out.mono ?_;rintro e dp ⟨rfl,rfl⟩;go_wp2;go_ret2;rw[sS.out];exact⟨rfl,hQ⟩
theorem amG(b x n:Nat)(t r:ae)(most:Int)(w:ah)(aA:n<=1048576)(u:ae)(aE:t=x::u)
  (dZ:Calls prog 39 #[.pointer (some ⟨b,0,none⟩),.int .i64 1] w λe w'=>e=.returned (.int .u64 1)/\bK w' b (some r)/\w.grownBy w' (some b))
  (hint:∀W,bK W b (some r)->Calls prog 40 #[.pointer (some ⟨b,0,none⟩),.int .i64 (min most 1048576)] W λe bb=>e=.returned (.int .i64 n)/\bK bb b (some t)/\W.grownBy bb (some b)) :
  Calls prog 72 #[.pointer (some ⟨b,0,none⟩),.int .i64 most] w λe w'=>pZ w' b t e (fr 1 n t)/\w.grownBy w' (some b):=by
 have jI:=I dZ;have Hint:=I hint;clear dZ hint;have fD:=I (λW (h:bK W b (some t))=>sC b (some t) 1 W h);rw[show(1:Int).toNat=1 from rfl,Ec 1 t (by rw[aE];simp)]at fD;have sS:=I ((Rk n t).trans (aB (by rw[aE];simp)));have aG:t.take 1=[x]:=by rw[aE];rfl
 have e2:t[0]?.getD 0=x:=by rw[aE];rfl
 rw[aG]at fD;rw[e2]at sS;have Hrep:=I (λW=>OI x n W (by omega));clear aA aE aG e2;generalize strOf [x]=s1 at *;go_enter func72,ntmps72
 go_wp2_with fail
 refine jI.out.mono ?_;rintro e aw ⟨rfl,jB,a1⟩;have dm:=I a1;have pV:=I (Hint.out aw jB);clear jB a1;go_wp2_with fail
 refine pV.out.mono ?_;rintro e aC ⟨rfl,gb,bp⟩;have du:=I (ef dm.out bp);have pd:=I gb;have bm:=I (gu b _ aC gb);clear gb bp;go_wp2_with fail
 refine bm.out.mono ?_;rintro e a6 ⟨rfl,rfl⟩;have bj:=I (fD.out aC pd);go_wp2_with fail
 refine bj.out.mono ?_;rintro e bH ⟨rfl,oS,cx⟩;have hQ:=I (ef du.out cx);have vJ:=I oS;have dt:=I (gu b _ bH oS);clear oS cx;generalize ap:strOf (List.replicate n x)=q6 at *;have ca:=I ap;clear ap;go_wp2_with fail
 refine(Hrep.out _).mono ?_;rintro e dp ⟨rfl,cL⟩;have ow:=I (ef hQ.out (dj cL (some b)));have EN:=I (vJ.out.below cL);have dX:=I (gu b _ dp EN);clear cL;go_wp2_with fail
 refine dX.out.mono ?_;rintro e dB ⟨rfl,rfl⟩;go_wp2;go_ret2;rw[sS.out,<-ca.out];exact⟨⟨rfl,EN⟩,ow⟩
theorem amF(b n:Nat)(t r:ae)(most:Int)(w:ah)(aA:n<=1048576)(aE:t=[])
  (dZ:Calls prog 39 #[.pointer (some ⟨b,0,none⟩),.int .i64 1] w λe w'=>e=.returned (.int .u64 1)/\bK w' b (some r)/\w.grownBy w' (some b))
  (hint:∀W,bK W b (some r)->Calls prog 40 #[.pointer (some ⟨b,0,none⟩),.int .i64 (min most 1048576)] W λe bb=>e=.returned (.int .i64 n)/\bK bb b (some t)/\W.grownBy bb (some b)) :
  Calls prog 72 #[.pointer (some ⟨b,0,none⟩),.int .i64 most] w λe w'=>pZ w' b t e (fr 1 n t)/\w.grownBy w' (some b):=by
 have jI:=I dZ;have Hint:=I hint;clear dZ hint;have fD:=I (λW (h:bK W b (some t))=>sC b (some t) 1 W h);rw[show(1:Int).toNat=1 from rfl,Eb 1 t (by rw[aE];simp)]at fD;have sS:=I ((Rk n t).trans (az (by rw[aE];simp)));have Hrep:=I (λW=>Zb n W (by omega));clear aA aE;generalize VE:strOf []=YJ at *;have adQ:=I VE;clear VE;go_enter func72,ntmps72
 go_wp2_with fail
 refine jI.out.mono ?_;rintro e aw ⟨rfl,jB,a1⟩;have dm:=I a1;have pV:=I (Hint.out aw jB);clear jB a1;go_wp2_with fail
 refine pV.out.mono ?_;rintro e aC ⟨rfl,gb,bp⟩;have du:=I (ef dm.out bp);have pd:=I gb;have bm:=I (gu b _ aC gb);clear gb bp;go_wp2_with fail
 refine bm.out.mono ?_;rintro e a6 ⟨rfl,rfl⟩;have bj:=I (fD.out aC pd);go_wp2_with fail
 refine bj.out.mono ?_;rintro e bH ⟨rfl,oS,cx⟩;have hQ:=I (ef du.out cx);have vJ:=I oS;have dt:=I (gu b _ bH oS);clear oS cx;go_wp2_with fail
 refine(Hrep.out _).mono ?_;rintro e dp ⟨rfl,cL⟩;have ow:=I (ef hQ.out (dj cL (some b)));have EN:=I (vJ.out.below cL);have dX:=I (gu b _ dp EN);clear cL;go_wp2_with fail
 refine dX.out.mono ?_;rintro e dB ⟨rfl,rfl⟩;go_wp2;go_ret2;rw[sS.out,<-adQ.out];exact⟨rfl,ow⟩
theorem amH(b n:Nat)(t r:ae)(most:Int)(w:ah)(aA:n<=1048576)(aE:t.length<=1000)(au:∀x∈t,x<256)
  (dZ:Calls prog 39 #[.pointer (some ⟨b,0,none⟩),.int .i64 1] w λe w'=>e=.returned (.int .u64 2)/\bK w' b (some r)/\w.grownBy w' (some b))
  (hint:∀W,bK W b (some r)->Calls prog 40 #[.pointer (some ⟨b,0,none⟩),.int .i64 (min most 1048576)] W λe bb=>e=.returned (.int .i64 n)/\bK bb b (some t)/\W.grownBy bb (some b)) :
  Calls prog 72 #[.pointer (some ⟨b,0,none⟩),.int .i64 most] w λe w'=>pZ w' b t e (fr 2 n t)/\w.grownBy w' (some b):=by
 have jI:=I dZ;have Hint:=I hint;clear dZ hint;have oy:=I (λW (h:bK W b (some t))=>amy b n t W aE au aA h);clear aA aE au;generalize bx:fr 2 n t=B at *;go_enter func72,ntmps72
 go_wp2_with fail
 refine jI.out.mono ?_;rintro e aw ⟨rfl,jB,a1⟩;have dm:=I a1;have pV:=I (Hint.out aw jB);clear jB a1;go_wp2_with fail
 refine pV.out.mono ?_;rintro e aC ⟨rfl,gb,bp⟩;have du:=I (ef dm.out bp);have pd:=I gb;have bm:=I (gu b _ aC gb);clear gb bp;go_wp2_with fail
 refine bm.out.mono ?_;rintro e a6 ⟨rfl,rfl⟩;have BW:=I (oy.out aC pd);go_wp2_with fail
 refine BW.out.mono ?_;rintro e bH ⟨ax,cx⟩;have hQ:=I (ef du.out cx);clear cx;have jK:=I ax;clear ax;cases B with
|none=>
  have he:=jK.out;unfold pZ at he;subst he;go_wp2;go_ret2;exact⟨rfl,hQ⟩
|some q=>
  have he:=jK.out;unfold pZ at he;obtain⟨he,hc⟩:=he;have gO:=I hc;subst he;clear hc;generalize ap:strOf q.1=q6 at *;have ca:=I ap;clear ap;go_wp2;go_ret2;exact⟨⟨by rw[ca.out];rfl,gO⟩,hQ⟩
theorem amI(b k n:Nat)(t r:ae)(most:Int)(w:ah)(hk:2<k)(ft:k<256)
  (dZ:Calls prog 39 #[.pointer (some ⟨b,0,none⟩),.int .i64 1] w λe w'=>e=.returned (.int .u64 k)/\bK w' b (some r)/\w.grownBy w' (some b))
  (hint:∀W,bK W b (some r)->Calls prog 40 #[.pointer (some ⟨b,0,none⟩),.int .i64 (min most 1048576)] W λe bb=>e=.returned (.int .i64 n)/\bK bb b (some t)/\W.grownBy bb (some b)) :
  Calls prog 72 #[.pointer (some ⟨b,0,none⟩),.int .i64 most] w λe w'=>pZ w' b t e (fr k n t)/\w.grownBy w' (some b):=by
 have jI:=I dZ;have Hint:=I hint;clear dZ hint;have sS:=I (afN k n t hk);have bD:((k:Int)==0)=false:=cz
 have bh:((k:Int)==1)=false:=cz
 have bN:((k:Int)==2)=false:=cz
 clear hk;go_enter func72,ntmps72
 go_wp2_with fail
 refine jI.out.mono ?_;rintro e aw ⟨rfl,jB,a1⟩;have dm:=I a1;have pV:=I (Hint.out aw jB);clear jB a1;go_wp2_with fail
 refine pV.out.mono ?_;rintro e aC ⟨rfl,gb,bp⟩;have du:=I (ef dm.out bp);have pd:=I gb;have bm:=I (gu b _ aC gb);clear gb bp;go_wp2_with fail
 refine bm.out.mono ?_;rintro e a6 ⟨rfl,rfl⟩;go_wp2;go_ret2;rw[sS.out];exact⟨rfl,du⟩
theorem amn{w':ah}{b k j:Nat}{r:ae}{e:Ending}{o:Option (ae×Nat)}(h:pZ w' b (r.drop j) e o):pZ w' b (k::r) e (o.map λq=>(q.1,1+j+q.2)):=by
 cases o with
|none=>exact h
|some q=>
  refine⟨h.1,?_⟩;have af:=h.2;rw[drop_drop]at af;show bK w' b (some ((k::r).drop (1+j+q.2)));rw[show 1+j+q.2=(j+q.2)+1 by omega,drop_succ_cons];exact af
theorem amJ(b:Nat)(bs:ae)(most:Int)(w:ah)(hl:bs.length<=1000)(au:∀x∈bs,x<256)(hm:ec most)(h:bK w b (some bs)) :
  Calls prog 72 #[.pointer (some ⟨b,0,none⟩),.int .i64 most] w λe w'=>pZ w' b bs e (jg bs most)/\w.grownBy w' (some b):=by
 have gZ:-9223372036854775808<=min most 1048576/\min most 1048576<=9223372036854775807:=by
  obtain⟨h1,af⟩:=hm;omega
 have dZ:=Ee b (some bs) 1 w (by omega) (by omega) ⟨au,by omega⟩ h;cases bs with
|nil=>
  rw[show eH (fO 1) (some [])=([],none)from rfl]at dZ;exact Xc b _ none most w dZ (λW bk=>Bc b none (min most 1048576) W gZ.1 gZ.2 trivial bk)
|cons k r=>
  rw[FW]at dZ;dsimp only at dZ;rw[show bd [k]=k by simp[bd]]at dZ;have hk:=au k dU;have lv:∀x∈r,x<256:=λx ai=>au x (eo _ ai)
  rw[bY]at hl;have hint:=λW (bk:bK W b (some r))=>Bc b (some r) (min most 1048576) W gZ.1 gZ.2 ⟨lv,by omega⟩ bk
  by_cases hc:0<(aX r).2/\((aX r).1:Int)<=min most 1048576
  .rw[wV _ r hc.1 hc.2]at hint;dsimp only at hint;have aA:(aX r).1<=1048576:=by omega
   have e:jg (k::r) most=(fr k (aX r).1 (r.drop (aX r).2)).map λq=>(q.1,1+(aX r).2+q.2):=by
    unfold jg;dsimp only;rw[aB ⟨hc.1,by omega,aA⟩]
   rw[e];have key:Calls prog 72 #[.pointer (some ⟨b,0,none⟩),.int .i64 most] w λe w'=>pZ w' b (r.drop (aX r).2) e (fr k (aX r).1 (r.drop (aX r).2))/\w.grownBy w' (some b):=by
    have ko:(r.drop (aX r).2).length<=1000:=by rw[cB];omega
    have qc:∀x∈r.drop (aX r).2,x<256:=jh lv _;clear e hc;generalize (aX r).1=n at *;generalize r.drop (aX r).2=t at *;match k,hk,dZ with
   |0,_,dZ=>
     by_cases ao:n<=t.length
     .exact amE b n t r most w ao dZ hint
     .exact amD b n t r most w ao dZ hint
   |1,_,dZ=>
     cases t with
    |nil=>exact amF b n [] r most w aA rfl dZ hint
    |cons x u=>exact amG b x n (x::u) r most w aA u rfl dZ hint
   |2,_,dZ=>exact amH b n t r most w aA ko qc dZ hint
   |k+3,hk,dZ=>exact amI b (k+3) n t r most w (by omega) hk dZ hint
   exact key.mono λe w' ⟨h1,af⟩=>⟨amn h1,af⟩
  .rw[AU _ r hc]at hint;have e:jg (k::r) most=none:=by
    unfold jg;dsimp only;rw[az];rintro⟨h1,af,aq⟩;exact hc ⟨h1,by omega⟩
   rw[e];exact Xc b _ (some r) most w dZ hint
end Go.Proofs.YtgiicohbigiapaaGreat
