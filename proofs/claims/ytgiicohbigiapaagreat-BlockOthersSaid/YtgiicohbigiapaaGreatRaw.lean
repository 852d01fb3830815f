/- Contracts, and what they rest on. Conditions: the theorems' premises. -/
import Derived.Test.YtgiicohbigiapaaGreatRap
set_option maxHeartbeats 4000000
set_option maxRecDepth 100000
open Go.Lib(hid)
open Go.Proofs.Tryz Go.Proofs.YtgiicohbigiapaaGreat.Bm
namespace Go.Proofs.YtgiicohbigiapaaGreat
open Go.RowKit
namespace Bm
def Rm(l:List Nat):Nat:=l.foldl (fun a c=>a*256+c) 0
theorem Dw(l:List Nat)(c:Nat):Rm (l++[c])=Rm l*256+c:=by simp[Rm]
theorem Ga:∀(k:Nat) (l:List Nat),l.length=k→(∀x∈l,x<256)→Rm l<256^k
 | 0,l,hl,_=>by rw[List.eq_nil_of_length_eq_zero hl];simp[Rm]
 | k+1,l,hl,h=>by
  have hne:l≠[]:=fun e=>by rw[e]at hl;simp at hl
  have e:=List.dropLast_concat_getLast hne;have h1:=Ga k l.dropLast (by simp[hl]) (fun x hx=>h x (List.dropLast_subset _ hx));have h2:=h _ (List.getLast_mem hne);rw[←e,Dw,Nat.pow_succ];omega
end Bm
theorem afD(x c:Nat)(hx:x<16777216)(hc:c<256):bits .or .i64 ((x:Int)*256) (c:Int)=((x*256+c:Nat):Int):=by
 have e:(x:Int)*256=((x*256:Nat):Int):=by simp
 have ho:x*256 ||| c=x*256+c:=by
  have:=wu 8 c x hc;rw[Nat.or_comm,this,Nat.add_comm]
 rw[e];show IntKind.i64.wrap (((BitVec.ofInt 64 ((x*256:Nat):Int)) ||| (BitVec.ofInt 64 (c:Int))).toNat:Int)=_;rw[BitVec.ofInt_natCast,BitVec.ofInt_natCast,BitVec.toNat_or,BitVec.toNat_ofNat,BitVec.toNat_ofNat,Nat.mod_eq_of_lt (by omega),Nat.mod_eq_of_lt (by omega),ho];exact IntWalk.i64_in _ (by omega)
theorem zS(b n:Nat)(T:List Nat)(w:World)(hlt:∀x∈T,x<256)(hT:T.length≤2000)(hn:n+3≤T.length)(hc:w.cell? ⟨b,0,none⟩=some (.string (strOf T))) :
  Calls prog 127 #[.pointer (some ⟨b,0,none⟩),.int .i64 (n:Int)] w fun e w'=>e=.returned (.int .i64 (xP T n:Int))∧Below w.heap.size w w':=by
 obtain⟨l,hl⟩:∃l,l=Bm.three T n:=⟨_,rfl⟩;have hl3:l.length=3:=by rw[hl,Bu T n hn];rfl
 have Da:∀x∈l,x<256:=by rw[hl];exact bZ (gQ hlt _) _
 have km:∀W:World,(Instr.slice 9 (.string (strOf T)) (some (.int .i64 (n:Int))) (some (.int .i64 ((n:Int)+3))) none).run prog W=.ok (.string (strOf l)) W:=fun W=>by
  have h:=acO T n (n+3) (by omega) hn W;rw[Int.natCast_add]at h;rw[hl];exact h
 obtain⟨w2,cap,bO,hcells,hb2⟩:=bU w l Da;have yx:=hid hcells;have Hb2:=hid hb2;have Hlt:=hid Da;have dQ:Hid (xP T n=Rm l%2003):=hid (by rw[hl];rfl);have HL3:=hid hl3;rw[hl3]at bO;generalize strOf T=ss at *;clear hl hl3 Da hlt hcells hb2;obtain⟨g,hg⟩:∃g,g=w.heap.size:=⟨_,rfl⟩;rw[←hg]at bO yx;clear hg;go_enter func127,ntmps127
 go_wp2;go_loopw [5,18] (fun tv kv wr=>∃k:Nat,k≤3∧kv=.int .i64 (k:Int)∧tv=.int .i64 (Rm (l.take k):Int)∧Hid (wr=w2)) (fun _ kv _=>3-(intOf kv).toNat)
 case atStart=>exact⟨0,by omega,rfl,rfl,hid rfl⟩
 case round=>
  obtain⟨k,hk,rfl,rfl,hw⟩:=hrel;have hwr:=hw.out;subst hwr;clear hw;by_cases hk3:k<3
  ·have hkl:k<l.length:=by rw[HL3.out];exact hk3
   have c1:=yx.out k hkl;have hs:=Dw (l.take k) l[k];rw[←List.take_succ_eq_append_getElem hkl]at hs;have hv:=Ga k (l.take k) (by rw[List.length_take];omega) (fun x hx=>Hlt.out x (List.mem_of_mem_take hx));have hv2:(256:Nat)^k≤256^2:=Nat.pow_le_pow_right (by omega) (by omega);have hx:=Hlt.out l[k] (List.getElem_mem hkl);have Hs:=hid hs;clear hs;have hv3:Rm (l.take k)<65536:=by omega
   clear hv hv2;generalize Rm (l.take k)=v at *;generalize l[k]'hkl=x at *;have ho:=afD v x (by omega) hx;clear yx Hlt;go_wp2;go_roundw
   case rel=>exact⟨k+1,by omega,by go_num,by rw[Hs.out];simp,hid (by first | rfl | trivial)⟩
   case measure=>simp[intOf];omega
  ·obtain rfl:k=3:=by omega
   have e3:l.take 3=l:=List.take_of_length_le (by rw[HL3.out];exact Nat.le_refl _);rw[e3];have Hr2:=hid (show(xP T n:Int)=(Rm l:Int)%2003 by rw[dQ.out];simp);have hv:=Ga 3 l HL3.out Hlt.out;clear dQ e3;generalize Rm l=v at *;go_wp2;go_ret;rw[Hr2.out];exact⟨rfl,Hb2.out⟩
theorem abS(A:Option Addr)(c:Nat)(bs:List Nat)(w:World)(hl:bs.length≤1000000)(hlt:∀x∈bs,x<256)(hr:Reads w A (u8s bs)) :
  Calls prog 64 #[.slice A bs.length c] w fun e w'=>∃A' c',e=.returned (.slice A' (iD bs) c')∧(Reads w' A' (aM (aR bs))∧∀a,A'=some a→w.heap.size≤a.block)∧Below w.heap.size w w':=by
 rcases Nat.eq_zero_or_pos bs.length with h0 | h0
 ·have hb:bs=[]:=List.eq_nil_of_length_eq_zero h0;subst hb;go_enter func64,ntmps64
  go_wp2;go_ret;exact⟨none,0,rfl,⟨fun h=>absurd rfl h,fun a h=>by cases h⟩,Below.refl _ _⟩
 have hz:((bs.length:Int) == 0)=false:=by rw[beq_eq_false_iff_ne];omega
 obtain⟨i0,hi,hz0,hz1,hz2⟩:=info_parts gI;have Hr:=hid hr;have Hlt:=hid hlt;have hT:=jO bs hlt;have hT0:=uN bs (by intro e;rw[e]at h0;simp at h0);have Hmx:=hid (Jv A c bs w (by omega) h0 hlt hr);clear hr hlt;obtain⟨g0,hg0⟩:∃g,g=w.heap.size:=⟨_,rfl⟩;have Hg0:=hid hg0;obtain⟨T,hTe⟩:∃T,T=iD bs:=⟨_,rfl⟩;have HTe:=hid hTe;have aeb:Hid (Calls prog 105 #[.slice A bs.length c] w fun e w'=>e=.returned (.int .u8 ((T:Int)-1))∧w=w'):=hid (by rw[hTe];exact Hmx.out);rw[←hTe]at hT hT0 ⊢;clear hg0 hTe Hmx;go_enter func64,ntmps64
 go_wp2_with fail
 refine aeb.out.mono ?_;rintro e w' ⟨rfl,rfl⟩;clear aeb;have e1:((T:Int)-1)+1=(T:Int):=by omega
 go_wp2_with (at_make;refine wpList_make_full _ rfl _ _ 112 rfl w.heap.size 3 i0 (.int .i64 0) 1 underlying112 hi hz0 hz1 .i64 .i64 _ _ T rfl rfl ?c1 ?c1 ?c2 ?c3 ?c4 ?_)
 case c1=>omega
 case c2=>first | omega | (rw[hz2];omega)
 case c3=>unfold maxLen;omega
 try case c4=>exact Nat.le_refl _
 intro w1 hown1 hg1;have hb1:=aJ hg1;have hr1:=dF hown1;rw[←Hg0.out]at hr1 ⊢;have Hb1:=hid hb1;rw[HTe.out,←pQ]at hr1;have Hr1:=hid hr1;clear hown1 hg1 hb1 hr1 hi hz0 hz1 hz2 e1 hz;go_wp2;go_loopw [16] (fun i wr=>∃k:Nat,k≤bs.length∧i=.int .i64 (k:Int)∧Hid (Row wr g0 3 (aM (bV bs k)))∧Hid (Below w.heap.size w wr)) (fun i _=>bs.length-(intOf i).toNat)
 case atStart=>exact⟨0,by omega,rfl,Hr1,Hb1⟩
 case round=>
  obtain⟨k,hk,rfl,hrow,hbel⟩:=hrel;clear Hr1 Hb1;by_cases hkl:k<bs.length
  ·have hne:bs≠[]:=by intro e;rw[e]at hkl;simp at hkl
   obtain⟨g,off,rfl,hc⟩:=fT (aC Hr.out hbel.out) hne;have c0:=hc k hkl;have hb:=Hlt.out bs[k] (List.getElem_mem hkl);have hbT:bs[k]<T:=by rw[HTe.out];exact jG bs _ (List.getElem_mem hkl)
   have hcb:(bs.take k).count bs[k]≤bs.length:=Nat.le_trans List.count_le_length (by rw[List.length_take];omega);have hcell:=hrow.out.cell bs[k];have hgt:=sW bs k bs[k] (by rw[←HTe.out];exact hbT);simp only[aM,List.getElem?_map,hgt,Option.map_some]at hcell;have hfree:=hrow.out.free bs[k];have Hn:=hid (pO bs k hkl);clear hc hgt;generalize (bs.take k).count bs[k]=q at hcb hcell Hn;generalize bs[k]=b at c0 hb hbT hcell hfree Hn;go_wp2;go_roundw
   case rel=>
    refine⟨k+1,by omega,by go_num,hid ?_,hid (hbel.out.setCell (by rw[Hg0.out];exact Nat.le_refl _) _)⟩;rw[Hn.out];have h1:=hrow.out.aW b (.int .i64 ((q:Int)+1));rw[show aM ((bV bs k).set b (q+1))=(aM (bV bs k)).set b (.int .i64 ((q:Int)+1)) by simp[aM,List.map_set]];exact h1
   case measure=>simp[intOf];omega
  ·obtain rfl:k=bs.length:=by omega
   rw[sV]at hrow;go_wp2;go_ret;exact⟨some ⟨g0,0,none⟩,T,rfl,⟨bR hrow.out,fun a e=>by injection e with e;rw[←e];exact Nat.le_of_eq Hg0.out.symm⟩,hbel.out⟩
namespace Bm
theorem rV(l:List Int)(h:Right l):∃cs:List Nat,l=cs.map (fun n:Nat=>(n:Int))∧l.map Int.toNat=cs∧cs.length=l.length∧(∀x∈cs,x≤1048576)∧cs.length≤256∧xU cs=kH l∧0<cs.sum:=by
 have hl:l=(l.map Int.toNat).map (fun n:Nat=>(n:Int)):=by
  rw[List.map_map];conv=>lhs;rw[←List.map_id l]
  apply List.map_congr_left
  intro x hx;have:=h.2.1 x hx;simp only[Function.comp_apply,id];omega
 refine⟨l.map Int.toNat,hl,rfl,by simp,?_,by simpa using h.1,?_,?_⟩
 ·intro x hx;obtain⟨y,hy,rfl⟩:=List.mem_map.1 hx;have:=h.2.1 y hy;omega
 ·unfold xU kH;rw[List.countP_map];apply List.countP_congr
  intro x _;simp
 ·obtain⟨x,hx,h0⟩:=h.2.2;have h1:=zh (l.map Int.toNat) x.toNat (List.mem_map_of_mem hx);omega
theorem Yd(cs:List Nat):(cs.map (fun n:Nat=>(n:Int))).sum=((cs.sum:Nat):Int):=by
 induction cs with
 | nil=>simp
 | cons a l ih=>rw[List.map_cons,List.sum_cons,ih,List.sum_cons];omega
theorem WE(sym q:Nat):QT sym q=if max (4*sym) q≤32 then 5 else if max (4*sym) q≤64 then 6 else if max (4*sym) q≤128 then 7 else if max (4*sym) q≤256 then 8 else 9:=by
 unfold QT;simp only[Nat.max_le]
theorem QU(sym q b:Nat)(h5:5≤b)(h:b≤QT sym q):b<QT sym q↔b<9∧2^b<max (4*sym) q:=by
 rw[WE]at h ⊢;generalize max (4*sym) q=M at h ⊢;have h9:b≤9:=by
  by_cases h1:M≤32
  ·rw[if_pos h1]at h;omega
  rw[if_neg h1]at h;by_cases h2:M≤64
  ·rw[if_pos h2]at h;omega
  rw[if_neg h2]at h;by_cases h3:M≤128
  ·rw[if_pos h3]at h;omega
  rw[if_neg h3]at h;by_cases h4:M≤256
  ·rw[if_pos h4]at h;omega
  rw[if_neg h4]at h;omega
 have hb:b=5∧2^b=32∨b=6∧2^b=64∨b=7∧2^b=128∨b=8∧2^b=256∨b=9∧2^b=512:=by
  have hb:b=5∨b=6∨b=7∨b=8∨b=9:=by omega
  rcases hb with rfl | rfl | rfl | rfl | rfl<;>decide
 generalize 2^b=P at hb ⊢;by_cases h1:M≤32
 ·rw[if_pos h1]at h ⊢;omega
 rw[if_neg h1]at h ⊢;by_cases h2:M≤64
 ·rw[if_pos h2]at h ⊢;omega
 rw[if_neg h2]at h ⊢;by_cases h3:M≤128
 ·rw[if_pos h3]at h ⊢;omega
 rw[if_neg h3]at h ⊢;by_cases h4:M≤256
 ·rw[if_pos h4]at h ⊢;omega
 rw[if_neg h4]at h ⊢;omega
end Bm
theorem abQ:akx:=by
 intro A c l w hl hok hr;have Hri:=hid (rG A c l w (by omega) hr);by_cases h:Bm.Right l
 ·have hB:lG l=true:=decide_eq_true h;rw[hB]at Hri;obtain⟨cs,hcs,hcs2,hlen,hm,Lu,hpos,h0⟩:=rV l h;have hsum:=Tx cs 1048576 hm;have Hsy:=hid (jF A c l w (by omega) hr);have hr2:Reads w A (aM cs):=by rw[←bJ,←hcs];exact hr
  have htt:=rH A c cs w (by omega) (by omega) hr2;rw[hlen]at htt;have Htt:=hid htt;have Av:iL l=QT (kH l) (cs.sum/8):=by
   unfold iL;rw[if_pos h];congr 2
   rw[hcs,Yd,Int.toNat_natCast]
  have hsl:=Br l;rw[Av];clear Av htt hr2 hpos hcs2 hm hB h hr hok;generalize kH l=sy at hsl Hsy ⊢;generalize cs.sum=S at hsum Htt h0 ⊢;have hmx:max (4*(sy:Int)) ((S:Int)/8)=((max (4*sy) (S/8):Nat):Int):=by omega
  have hMb:max (4*sy) (S/8)≤1000000000:=by omega
  have Hnx:=hid (fun b h5 hb=>QU sy (S/8) b h5 hb);have hLo:=QV sy (S/8) (by omega);obtain⟨h5,h9,_⟩:=hLo;generalize QT sy (S/8)=L at Hnx h5 h9 ⊢;generalize max (4*sy) (S/8)=M at hmx hMb Hnx;clear hcs;go_enter func162,ntmps162
  go_wp2_with fail
  refine Hri.out.mono ?_;rintro e w' ⟨rfl,rfl⟩;go_wp2_with fail
  refine Hsy.out.mono ?_;rintro e w' ⟨rfl,rfl⟩;go_wp2_with fail
  refine Htt.out.mono ?_;rintro e w' ⟨rfl,rfl⟩;clear Hri Hsy Htt;go_wp2;clear hmx;go_loop [4] (fun i=>∃b:Nat,5≤b∧b≤L∧i=.int .i64 (b:Int)) (fun i=>9-(intOf i).toNat)
  case atStart=>exact⟨5,by omega,by omega,rfl⟩
  case round=>
   obtain⟨b,hb5,hbL,rfl⟩:=hrel;have hnx:=Hnx.out b hb5 hbL;have hP:=Gn b (by omega) (by omega);have Hpd:Hid ((2:Int)^b=((2^b:Nat):Int)):=hid (by simp);generalize 2^b=P at hP Hpd hnx;have hw:wrap64 (P:Int)=(P:Int):=jk _ (by omega) (by omega);by_cases hlt:b<L
   ·have hn:=hnx.1 hlt;have d1:decide ((b:Int)<9)=true:=decide_eq_true (by omega);have d2:decide (P<M)=true:=decide_eq_true (by omega);have hpd:=Hpd.out;clear hnx hn;go_wp2;go_round
    case rel=>exact⟨b+1,by omega,by omega,by go_num⟩
    case measure=>simp[intOf];omega
   ·obtain rfl:b=L:=by omega
    have hn:¬(b<9∧P<M):=fun h=>hlt (hnx.2 h)
    clear hnx;by_cases h9b:b<9
    ·have d1:decide ((b:Int)<9)=true:=decide_eq_true (by omega);have d2:decide (P<M)=false:=decide_eq_false (fun h=>hn ⟨h9b,h⟩);have hpd:=Hpd.out;clear hn;go_wp2;go_ret;exact⟨rfl,Below.refl _ _⟩
    ·have d1:decide ((b:Int)<9)=false:=decide_eq_false (by omega);clear hn;go_wp2;go_ret;exact⟨rfl,Below.refl _ _⟩
 ·have hB:lG l=false:=decide_eq_false h;have hL:iL l=0:=by unfold iL;rw[if_neg h]
  rw[hB]at Hri;rw[hL];clear h hB hL;go_enter func162,ntmps162
  go_wp2_with fail
  refine Hri.out.mono ?_;rintro e w' ⟨rfl,rfl⟩;go_wp2;go_ret;exact⟨rfl,Below.refl _ _⟩
end Go.Proofs.YtgiicohbigiapaaGreat
