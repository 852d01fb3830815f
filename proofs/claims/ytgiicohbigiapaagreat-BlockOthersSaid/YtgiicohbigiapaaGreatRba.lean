/- Contracts, and what they rest on. Conditions: the theorems' premises. -/
import Derived.Test.YtgiicohbigiapaaGreatRae
import Derived.Test.YtgiicohbigiapaaGreatRaw
set_option maxHeartbeats 4000000
set_option maxRecDepth 100000
open Go.Lib(hid)
open Go.Proofs.Tryz Go.Proofs.YtgiicohbigiapaaGreat.Bm
namespace Go.Proofs.YtgiicohbigiapaaGreat
open Go.RowKit
theorem QS(A:Option Addr)(c:Nat)(l:List Int)(w:World)(hl:l.length≤1000000000)(hc:l.length≤c)(hr:Reads w A (lQ l)) :
  Calls prog 141 #[.slice A l.length c] w fun e w'=>∃k,e=.returned (.slice A k c)∧NQ l k∧w=w':=by
 have Hr:=hid hr;have UC:=hid (fun q (hq:q≤l.length) W=>Vt A l.length c q W hq hc);clear hr;go_enter func141,ntmps141
 go_wp2;go_loop [3] (fun n=>∃k:Nat,k≤l.length∧n=.int .i64 (k:Int)∧Hid (∀j (h:j<l.length),k≤j→l[j]=0)) (fun n=>(intOf n).toNat)
 case atStart=>exact⟨l.length,Nat.le_refl _,rfl,hid (fun j h hk=>by omega)⟩
 case round=>
  obtain⟨k,hk,rfl,hz⟩:=hrel;have hcut:=UC.out k hk;rcases Nat.eq_zero_or_pos k with h0 | h0
  ·subst h0;clear Hr UC;go_wp2;go_ret;exact⟨0,rfl,⟨by omega,hz.out,.inl rfl⟩,rfl⟩
  ·obtain⟨q,rfl⟩:∃q,k=q+1:=⟨k-1,by omega⟩;obtain⟨g,off,rfl,hcell⟩:=nG Hr.out (by omega);have c0:=hcell q (by omega);have hnz:l[q]≠0→NQ l (q+1):=fun h=>⟨hk,hz.out,.inr ⟨by omega,h⟩⟩
   have hnx:l[q]=0→∀j (h:j<l.length),q≤j→l[j]=0:=fun h j hj hq=>by
    by_cases e:j=q
    ·subst e;exact h
    ·exact hz.out j hj (by omega)
   have Hnz:=hid hnz;have Hnx:=hid hnx;have hqi:((q+1:Nat):Int)-1=(q:Int):=by omega
   clear hcell hnz hnx Hr UC;generalize l[q]=z at c0 Hnz Hnx;by_cases hzz:z=0
   ·subst hzz;have Hn:=hid (Hnx.out rfl);clear Hnz Hnx hcut;go_wp2;go_round
    case rel=>exact⟨q,by omega,by go_num,Hn⟩
    case measure=>simp[intOf]
   ·have hd:(z == 0)=false:=by simpa using hzz
    have He:=hid (Hnz.out hzz);clear Hnz Hnx;go_wp2;go_ret;exact⟨q+1,rfl,He.out,rfl⟩
theorem QO(A:Option Addr)(c:Nat)(ls:List Nat)(w:World)(hl:ls.length≤256)(hc:ls.length≤c)(hr:Reads w A (aM ls)) :
  Calls prog 141 #[.slice A ls.length c] w fun e w'=>e=.returned (.slice A (aI ls).length c)∧w=w':=by
 have h:=QS A c (ls.map fun n:Nat=>(n:Int)) w (by simp;omega) (by simpa using hc) (by rw[bJ];exact hr);rw[List.length_map]at h;exact h.mono fun e w' ⟨k,he,hk,hw⟩=>by
  obtain⟨_,e2,_⟩:=MP ls k hk;exact⟨by rw[←e2];exact he,hw⟩
namespace Bm
theorem Pt(V n p:Nat):(bitsOf V n).drop p=bitsOf (V/2^p) (n-p):=by
 apply List.ext_getElem
 ·simp[aU]
 ·intro i h1 h2;rw[List.getElem_drop,dw,dw,Nat.div_div_eq_div_mul,←Nat.pow_add]
theorem OG(V n:Nat)(h:V<2^n):(∀x∈bitsOf V n,x=0)↔V=0:=by
 constructor
 ·intro h1;rw[←mZ V n h,qU _ h1]
 ·intro e x hx;subst e;unfold bitsOf at hx;obtain⟨i,_,rfl⟩:=List.mem_map.1 hx;simp
def Fb(s:List Nat)(pos:Nat):Prop:=((bitsOf (aS s) (8*s.length)).drop pos).length≤7∧∀x∈(bitsOf (aS s) (8*s.length)).drop pos,x=0
instance (s:List Nat) (pos:Nat):Decidable (Fb s pos):=by unfold Fb;exact inferInstance
theorem Jj(s:List Nat)(hs:∀x∈s,x<256)(pos:Nat)(hp:pos≤8*s.length):Fb s pos↔(8*s.length-pos≤7∧aS s/2^pos%2^(8*s.length-pos)=0):=by
 have hv:=jP s hs;rw[rO]at hv;have h1:aS s/2^pos<2^(8*s.length-pos):=by
  rw[Nat.div_lt_iff_lt_mul (Nat.two_pow_pos _),←Nat.pow_add,Nat.sub_add_cancel hp];exact hv
 unfold Fb;rw[Pt _ _ _,aU,OG _ _ h1,Nat.mod_eq_of_lt h1]
end Bm
theorem ze(b:Nat)(bs:List Nat)(pos:Nat)(w:World)(hs:bs.length≤10000)(hbs:∀x∈bs,x<256)(hp:pos≤8*bs.length)(h:RS w b 0 bs pos) :
  Calls prog 178 #[.pointer (some ⟨b,0,none⟩)] w fun e w'=>e=.returned (.bool (decide (Fb bs pos)))∧w.grownBy w' (some b):=by
 have hl:=uJ b 0 bs pos w (by omega) hp h;obtain⟨lf,hlf⟩:∃lf,lf=8*bs.length-pos:=⟨_,rfl⟩;have hd:Fb bs pos↔(lf≤7∧aS bs/2^pos%2^lf=0):=by rw[hlf];exact Jj bs hbs pos hp
 have hdd:decide (Fb bs pos)=decide (lf≤7∧aS bs/2^pos%2^lf=0):=decide_eq_decide.2 hd;rw[hdd];have Htk:Hid (lf≤32→∀k,Calls prog 177 #[.pointer (some ⟨b,0,none⟩),.int .i64 (lf:Int)] (w.drewN k) fun e w'=>e=.returned (.tuple #[.int .u32 ((aS bs/2^pos%2^lf:Nat):Int),.bool true])∧RS w' b 0 bs (pos+lf)∧(w.drewN k).grownBy w' (some b)):=hid (fun h1 k=>jN b 0 bs pos lf _ (by omega) hbs h1 (by omega) (h.drewN k));have Kr:Hid (32<lf→∀k,Calls prog 177 #[.pointer (some ⟨b,0,none⟩),.int .i64 (lf:Int)] (w.drewN k) fun e w'=>e=.returned (.tuple #[.int .u32 0,.bool false])∧w.drewN k=w'):=hid (fun h1 k=>Kj ⟨b,0,none⟩ (lf:Int) _ (.inr (by omega)));rw[←hlf]at hl;have Hl:=hid hl;have amH:lf≤80000:=by omega
 clear hl h hdd hd hlf;generalize hX:aS bs/2^pos%2^lf=X at *;clear hX;by_cases h7:lf≤7
 ·have hd:decide (lf≤7∧X=0)=((X:Int) == 0):=by
   by_cases h0:X=0
   ·subst h0;simp[h7]
   ·rw[decide_eq_false (fun h=>h0 h.2)];symm
    rw[beq_eq_false_iff_ne];omega
  rw[hd];clear hd;go_enter func178,ntmps178
  go_wp2_with fail
  refine Hl.out.mono ?_;rintro e w' ⟨rfl,kk,rfl⟩;clear Hl;have Ht:=hid (Htk.out (by omega) kk);clear Kr Htk;go_wp2_with fail
  refine Ht.out.mono ?_;rintro e w2 ⟨rfl,_,hg⟩;have Hg:Hid (w.grownBy w2 (some b)):=hid ⟨hg.os,hg.tape,hg.output,hg.size,hg.block⟩;clear hg Ht;go_wp2;go_ret;exact⟨rfl,Hg.out⟩
 ·have hd:decide (lf≤7∧X=0)=false:=decide_eq_false (fun h=>h7 h.1);rw[hd];clear hd;go_enter func178,ntmps178
  go_wp2_with fail
  refine Hl.out.mono ?_;rintro e w' ⟨rfl,kk,rfl⟩;clear Hl;by_cases h32:lf≤32
  ·have Ht:=hid (Htk.out h32 kk);clear Kr Htk;go_wp2_with fail
   refine Ht.out.mono ?_;rintro e w2 ⟨rfl,_,hg⟩;have Hg:Hid (w.grownBy w2 (some b)):=hid ⟨hg.os,hg.tape,hg.output,hg.size,hg.block⟩;clear hg Ht;go_wp2;go_ret;exact⟨rfl,Hg.out⟩
  ·have Ht:=hid (Kr.out (by omega) kk);clear Kr Htk;go_wp2_with fail
   refine Ht.out.mono ?_;rintro e w2 ⟨rfl,rfl⟩;clear Ht;go_wp2;go_ret;exact⟨rfl,bg (au _ _) _⟩
namespace Bm
theorem Pp(size k:Nat)(p:List Nat)(hp:xU p≤size)(hs:p.sum=size+(k+1)) :
  aG p<p.length∧2≤qN p∧(p.modify (aG p) (·-1)).sum=size+k∧xU (p.modify (aG p) (·-1))≤size:=by
 have hne:p≠[]:=by rintro rfl;simp at hs
 have hlt:=iX p hne;have hget:=iy p hlt;have h2:2≤qN p:=by
  rcases Nat.lt_or_ge (qN p) 2 with h1 | h1
  ·have:=xq p (fun x hx=>by have:=AP p x hx;omega);omega
  ·exact h1
 have hsum:=su p (aG p) (·-1) hlt;rw[hget]at hsum;have hsame:fA (p.modify (aG p) (·-1)) p:=by
  refine⟨by simp,fun i=>?_⟩;rw[get_modify];split
  ·next e=>
   subst e;rw[List.getElem?_eq_getElem hlt,hget];simp;omega
  ·exact Iff.rfl
 exact⟨hlt,h2,by omega,by rw[hsame.xU];exact hp⟩
theorem zk(p:List Nat)(k:Nat)(f:Nat→Nat)(h:k<p.length):p.modify k f=p.set k (f p[k]):=by
 apply List.ext_getElem?
 intro i;rw[get_modify,List.getElem?_set];split
 ·next e=>subst e;simp[h]
 ·rfl
theorem wU(l:List Int)(log:Int)(h:¬iT l log):jh l log=[]:=by unfold jh;rw[if_neg h]
end Bm
theorem Dg(l:List Nat)(i b:Nat):(aM l).set i (.int .i64 (b:Int))=aM (l.set i b):=by simp[aM,List.map_set]
theorem Rl:adC:=by
 intro A c l log w hl hok Av hr;have Hri:=hid (rG A c l w (by omega) hr);have Hsz:=hid (zl log w);by_cases h:Bm.Right l
 case neg=>
  have hB:lG l=false:=decide_eq_false h;have hno:¬iT l log:=fun h1=>h h1.1
  rw[hB]at Hri;rw[wU l log hno,decide_eq_false hno];clear h hB hno Hsz;go_enter func163,ntmps163
  go_wp2_with fail
  refine Hri.out.mono ?_;rintro e w' ⟨rfl,rfl⟩;go_wp2;go_ret2;exact⟨none,0,rfl,fun h=>absurd rfl h,Below.refl _ _⟩
 have hB:lG l=true:=decide_eq_true h;rw[hB]at Hri;by_cases hs:Bm.sizedB log=true
 case neg=>
  have hs0:Bm.sizedB log=false:=by simpa using hs
  have hno:¬iT l log:=fun h1=>hs (decide_eq_true ⟨h1.2.1,h1.2.2.1⟩)
  rw[hs0]at Hsz;rw[wU l log hno,decide_eq_false hno];clear h hB hno hs hs0;go_enter func163,ntmps163
  go_wp2_with fail
  refine Hri.out.mono ?_;rintro e w' ⟨rfl,rfl⟩;go_wp2_with fail
  refine Hsz.out.mono ?_;rintro e w' ⟨rfl,rfl⟩;go_wp2;go_ret2;exact⟨none,0,rfl,fun h=>absurd rfl h,Below.refl _ _⟩
 obtain⟨h5,h9⟩:5≤log∧log≤9:=of_decide_eq_true hs;rw[hs]at Hsz;have Hsy:=hid (jF A c l w (by omega) hr);obtain⟨b,rfl⟩:=Int.eq_ofNat_of_zero_le (show 0≤log by omega);have hP:=Gn b (by omega) (by omega);have hsO:iT l (b:Int)↔kH l≤2^b:=⟨fun h1=>by have:=h1.2.2.2;rwa [Int.toNat_natCast]at this,fun h1=>⟨h,h5,h9,by rwa [Int.toNat_natCast]⟩⟩;have hsA:iT l (b:Int)→jh l (b:Int)=(qx (l.map Int.toNat) (2^b)).map (fun n:Nat=>(n:Int)):=fun h1=>by unfold jh;rw[if_pos h1,Int.toNat_natCast]
 have Hpd:Hid ((2:Int)^b=((2^b:Nat):Int)):=hid (by simp);generalize 2^b=P at hP hsO hsA Hpd;have hw:wrap64 (P:Int)=(P:Int):=jk _ (by omega) (by omega);have hsl:=Br l;have Da:=h.1;by_cases hle:kH l≤P
 case neg=>
  have hno:¬iT l (b:Int):=fun h1=>hle (hsO.1 h1)
  rw[wU l _ hno,decide_eq_false hno];have hd:decide (P<kH l)=true:=decide_eq_true (by omega);have hpd:=Hpd.out;clear h hB hno hs hsO hsA;generalize kH l=sy at hd hsl Hsy hle;go_enter func163,ntmps163
  go_wp2_with fail
  refine Hri.out.mono ?_;rintro e w' ⟨rfl,rfl⟩;go_wp2_with fail
  refine Hsz.out.mono ?_;rintro e w' ⟨rfl,rfl⟩;go_wp2_with fail
  refine Hsy.out.mono ?_;rintro e w' ⟨rfl,rfl⟩;go_wp2;go_ret2;exact⟨none,0,rfl,fun h=>absurd rfl h,Below.refl _ _⟩
 have hyes:=hsO.2 hle;rw[hsA hyes,decide_eq_true hyes,bJ];obtain⟨cs,hcs,hcs2,hlen,hm,Lu,hpos,h0⟩:=rV l h;rw[hcs2];have hr2:Reads w A (aM cs):=by rw[←bJ,←hcs];exact hr
 have Hr2:=hid hr2;have Oa:Hid (Calls prog 193 #[.slice A l.length c,.int .i64 (P:Int)] w fun e w'=>∃g,e=.returned (.slice (some ⟨g,0,none⟩) l.length l.length)∧w.heap.size≤g∧Row w' g 3 (aM (Bm.parts cs P))∧Below w.heap.size w w'):=hid (by
  have h1:=Mc A c cs P w Lu hm (by omega) hr2;rw[hlen]at h1;exact h1)
 have Hgr:Hid (∀W,Below w.heap.size w W→Calls prog 194 #[.slice A l.length c] W fun e w'=>e=.returned (.int .i64 (aG cs:Int))∧W=w'):=hid (fun W hb=>by
  have h1:=qc A c cs W (by omega) (fun x hx=>by have:=hm x hx;omega) (aC hr2 hb);rw[hlen]at h1;exact h1)
 have hspec:=rY cs P h0 (by rw[hpos];exact hle);have LB:(Bm.parts cs P).length=l.length:=by simp[Bm.parts,hlen]
 have Zo:=zw cs P;have afp:Bm.xU (Bm.parts cs P)≤P:=by rw[Zo.xU,hpos];exact hle
 have hpb:∀x∈Bm.parts cs P,x≤1000000000:=fun x hx=>by
  unfold Bm.parts at hx;obtain⟨y,hy,rfl⟩:=List.mem_map.1 hx;have h1:=hm y hy;unfold oO;split
  ·omega
  ·have h2:y*P/cs.sum≤y*P:=Nat.div_le_self _ _;have h3:y*P≤1048576*512:=Nat.mul_le_mul h1 hP.2;omega
 have abn:=Tx (Bm.parts cs P) 1000000000 hpb;rw[LB]at abn;have hfl:aG cs<l.length:=by rw[←hlen];exact iX cs (by rintro rfl;simp at h0)
 have hsh:qx cs P=if (Bm.parts cs P).sum<P then(Bm.parts cs P).modify (aG cs) (·+(P-(Bm.parts cs P).sum))else Bm.decs ((Bm.parts cs P).sum-P) (Bm.parts cs P):=rfl
 have aaX:(qx cs P).length=l.length:=by rw[hspec.2.1,hlen]
 rw[List.length_map,aaX];have UO:Hid (∀W B d,Reads W B (aM (Bm.parts cs P))→Calls prog 191 #[.slice B l.length d] W fun e w'=>e=.returned (.int .i64 ((Bm.parts cs P).sum:Int))∧W=w'):=hid (fun W B d h1=>by
  have h2:=rH B d (Bm.parts cs P) W (by rw[LB];omega) (by omega) h1;rw[LB]at h2;exact h2)
 generalize qx cs P=R at hsh aaX ⊢;generalize Bm.parts cs P=p0 at LB afp hpb abn hsh UO Oa;have HR:=hid hsh;have Hpb:=hid hpb;have aeg:=hid LB;obtain⟨S0,hS0⟩:∃S,S=p0.sum:=⟨_,rfl⟩;have Hps:=hid hS0;rw[←hS0]at abn HR UO;clear hS0;clear hsh hpb LB hspec Zo hpos hm hcs2 hr2 hcs hsO hsA hyes hB hs h hr hok Av hlen Lu aaX h0;generalize kH l=sy at hle Hsy hsl;generalize aG cs=f at Hgr hfl HR;have hd:decide (P<sy)=false:=decide_eq_false (by omega);have hpd:=Hpd.out;clear Hr2;clear cs;generalize l.length=n at *;clear l;go_enter func163,ntmps163
 go_wp2_with fail
 refine Hri.out.mono ?_;rintro e w' ⟨rfl,rfl⟩;go_wp2_with fail
 refine Hsz.out.mono ?_;rintro e w' ⟨rfl,rfl⟩;go_wp2_with fail
 refine Hsy.out.mono ?_;rintro e w' ⟨rfl,rfl⟩;go_wp2_with fail
 refine Oa.out.mono ?_;rintro e w1 ⟨g,rfl,hg,hrow,hb1⟩;have fu:=hid hrow;have Hb1:=hid hb1;clear hrow hb1 Hri Hsz Hsy Oa hd hpd hw;go_wp2_with fail
 refine(UO.out w1 _ _ (bR fu.out)).mono ?_;rintro e w' ⟨rfl,rfl⟩;clear UO;by_cases hlt:S0<P
 ·have hd1:decide ((0:Int)<(P:Int)-(S0:Int))=true:=decide_eq_true (by omega);go_wp2_with fail
  refine(Hgr.out w1 Hb1.out).mono ?_;rintro e w' ⟨rfl,rfl⟩;clear Hgr;rw[if_pos hlt]at HR;have hfp:f<p0.length:=by rw[aeg.out];exact hfl
  have hc0:=fu.out.cell f;rw[bK p0 f hfp]at hc0;have hf0:=fu.out.free f;have hx:=Hpb.out p0[f] (List.getElem_mem hfp);have HR2:Hid (R=p0.set f (p0[f]+(P-S0))):=hid (by rw[HR.out,zk p0 f _ hfp]);clear HR;generalize p0[f]=x at hc0 hx HR2;have hxs:(x:Int)+((P:Int)-(S0:Int))=((x+(P-S0):Nat):Int):=by omega
  have Hxs:=hid hxs;clear hxs hfp;go_wp2;go_loop [8] (fun m=>m=.int .i64 ((P:Int)-(S0:Int))) (fun _=>0)
  case atStart=>rfl
  case round=>
   subst hrel;have hd2:decide ((P:Int)-(S0:Int)<0)=false:=decide_eq_false (by omega);go_wp2;go_ret2;refine⟨some ⟨g,0,none⟩,⟨n,rfl⟩,?_,Hb1.out.setCell (p:=⟨g,f,none⟩) hg _⟩;rw[HR2.out,←Dg];have h1:=fu.out.aW f (.int .i64 ((x:Int)+((P:Int)-(S0:Int))));rw[Hxs.out]at h1 ⊢;exact bR h1
 ·have hd1:decide ((0:Int)<(P:Int)-(S0:Int))=false:=decide_eq_false (by omega);rw[if_neg hlt]at HR;go_wp2;clear hd1;go_loopw [8] (fun m wr=>∃(j:Nat) (p:List Nat),m=.int .i64 (-(j:Int))∧j≤1000000000000∧Hid (R=Bm.decs j p)∧Hid (p.length=n)∧Hid (Bm.xU p≤P∧p.sum=P+j)∧Hid (∀x∈p,x≤1000000000)∧Hid (Row wr g 3 (aM p))∧Hid (Below w.heap.size w wr)) (fun m _=>(-(intOf m)).toNat)
  case atStart=>exact⟨S0-P,p0,by go_num,by omega,HR,aeg,hid ⟨afp,by have:=Hps.out;omega⟩,Hpb,fu,Hb1⟩
  case round=>
   obtain⟨j,p,rfl,hj,HRj,Hpl,Hpp,Hpx,Hr,jm⟩:=hrel;rcases j with _ | j
   ·go_wp2;go_ret2;refine⟨some ⟨g,0,none⟩,n,rfl,?_,jm.out⟩;rw[HRj.out];exact bR Hr.out
   ·obtain⟨Zl,h2,hsm,hps⟩:=Pp P j p Hpp.out.1 Hpp.out.2;have hg1:=iy p Zl;have hpn:=Hpl.out;have Hgp:Hid (Calls prog 194 #[.slice (some ⟨g,0,none⟩) n n] wr fun e w'=>e=.returned (.int .i64 (aG p:Int))∧wr=w'):=hid (by
     have h1:=qc (some ⟨g,0,none⟩) n p wr (by omega) (fun x hx=>by have:=Hpx.out x hx;omega) (bR Hr.out);rw[hpn]at h1;exact h1)
    have hc0:=Hr.out.cell (aG p);rw[bK p _ Zl,hg1]at hc0;have hf0:=Hr.out.free (aG p);have hmx:=Hpx.out _ (AQ p (by rintro rfl;simp at Zl));have aiE:Hid (p.modify (aG p) (·-1)=p.set (aG p) (qN p-1)):=hid (by rw[zk p _ _ Zl,hg1]);have Hd:Hid (R=Bm.decs j (p.modify (aG p) (·-1))):=HRj;have Hsm:Hid (Bm.xU (p.modify (aG p) (·-1))≤P∧(p.modify (aG p) (·-1)).sum=P+j):=hid ⟨hps,hsm⟩;rw[aiE.out]at Hd Hsm;clear HRj hg1 hsm hps aiE Hpp;have amB:aG p<n:=by omega
    generalize aG p=q at *;generalize qN p=y at *;have hn0:decide (-((j:Int)+1)<0)=true:=decide_eq_true (by omega);clear hpn;go_wp2_with fail
    refine Hgp.out.mono ?_;rintro e w' ⟨rfl,rfl⟩;go_wp2;go_roundw
    case rel=>
     refine⟨j,p.set q (y-1),by go_num,by omega,Hd,hid (by rw[List.length_set,Hpl.out]),Hsm,hid ?_,hid ?_,hid (jm.out.setCell (by exact hg) _)⟩
     ·intro x hx;rcases List.mem_or_eq_of_mem_set hx with h1 | h1
      ·exact Hpx.out x h1
      ·omega
     ·have h1:=Hr.out.aW q (.int .i64 ((y:Int)-1));rw[show((y:Int)-1)=((y-1:Nat):Int) by omega,Dg]at h1;rw[show((y:Int)-1)=((y-1:Nat):Int) by omega];exact h1
    case measure=>simp[intOf];omega
end Go.Proofs.YtgiicohbigiapaaGreat
