/- Contracts, and what they rest on. Conditions: the theorems' premises. -/
import Derived.Test.YtaebnkeddcbmkaaGreatYag
import Derived.Test.YtaebnkeddcbmkaaGreatYai
import Derived.Lib.OwnKind
import Derived.Deep.AppendLies
set_option maxHeartbeats 4000000
set_option maxRecDepth 100000
open Go.Lib(hid)
open Go.Proofs.Tryz Go.Proofs.YtaebnkeddcbmkaaGreat.Bm
namespace Go.Proofs.YtaebnkeddcbmkaaGreat
open Go.RowKit Go.Maps Go.Proofs.YtaebnkeddcbmkaaGreat.Bm
namespace Bm
def wgX(A X:List ByteArray):ByteArray->Option Nat:=fun g=>if GN A g+(if g∈X then 1 else 0)=0 then none else some (GN A g+(if g∈X then 1 else 0)-1)
def wg0(R:List ByteArray):ByteArray->Option Nat:=wgX R []
theorem agM(R:List ByteArray)(g:ByteArray):val (wg0 R) g=wtG R g:=by
 unfold val wg0 wgX wtG;simp only[List.not_mem_nil,if_false,Nat.add_zero];split
 ·rename_i h;rw[h];rfl
 ·rfl
theorem agO(A:List ByteArray)(s:ByteArray):wgX A (gms s)=wgX (A++[s]) []:=by
 funext g
 unfold wgX;rw[wK];simp only[List.not_mem_nil,if_false,Nat.add_zero]
def Yj(A X:List ByteArray)(i:Nat)(La:ByteArray->Option Nat):Prop:=∀g,(g∈X->La g=some i)/\(¬g∈X->(GN A g=0->La g=none)/\(0<GN A g->∃b,b<i/\La g=some b))
theorem ajx{A:List ByteArray}{s:ByteArray}{i:Nat}{La:ByteArray->Option Nat}(h:Yj A (gms s) i La):Yj (A++[s]) [] (i+1) La:=fun g=>by
 obtain⟨h1,h2⟩:=h g;refine⟨fun hg=>by simp at hg,fun _=>⟨fun hc=>?_,fun hc=>?_⟩⟩
 ·rw[wK]at hc;by_cases hg:g∈gms s
  ·rw[if_pos hg]at hc;omega
  ·exact(h2 hg).1 (by omega)
 ·rw[wK]at hc;by_cases hg:g∈gms s
  ·exact⟨i,by omega,h1 hg⟩
  ·rw[if_neg hg]at hc;obtain⟨b,hb,e⟩:=(h2 hg).2 (by omega);exact⟨b,by omega,e⟩
theorem afk{A X:List ByteArray}{i:Nat}{La:ByteArray->Option Nat}(h:Yj A X i La)(g:ByteArray):Yj A (X++[g]) i (QJ La g (some i)):=fun u=>by
 obtain⟨h1,h2⟩:=h u;by_cases e:u=g
 ·subst e;rw[rR];exact⟨fun _=>rfl,fun hn=>absurd (by simp) hn⟩
 ·rw[ow La _ e];refine⟨fun hu=>h1 (by simpa [e]using hu),fun hu=>h2 (fun hx=>hu (by simp[hx]))⟩
theorem agP(A X:List ByteArray)(g:ByteArray)(h:g∈X):wgX A (X++[g])=wgX A X:=by
 funext u
 unfold wgX;have e:(u∈X++[g])↔u∈X:=by
  simp only[List.mem_append,List.mem_singleton];exact⟨fun hx=>hx.elim id (fun e=>e▸h),Or.inl⟩
 by_cases hu:u∈X
 ·rw[if_pos hu,if_pos (e.2 hu)]
 ·rw[if_neg hu,if_neg (fun hx=>hu (e.1 hx))]
theorem Xx(A X:List ByteArray)(g:ByteArray)(h:¬g∈X):wgX A (X++[g])=QJ (wgX A X) g (some (GN A g)):=by
 funext u
 by_cases e:u=g
 ·subst e;rw[rR];unfold wgX;rw[if_pos (show u∈X++[u] by simp),if_neg (by omega)];rfl
 ·rw[ow _ _ e];unfold wgX;have e2:(u∈X++[g])↔u∈X:=by simp[e]
  by_cases hu:u∈X
  ·rw[if_pos hu,if_pos (e2.2 hu)]
  ·rw[if_neg hu,if_neg (fun hx=>hu (e2.1 hx))]
theorem agQ(A X:List ByteArray)(g:ByteArray)(h:¬g∈X):(wgX A X g).getD 0=GN A g-1:=by
 unfold wgX;rw[if_neg h,Nat.add_zero];split
 ·rename_i h1;rw[h1];rfl
 ·rfl
end Bm
theorem Bc(A:Option Addr)(c:Nat)(R:List ByteArray)(w:World)(hR:R.length<=64)(hs:∀s∈R,s.size<=512)(hr:Reads w A (jF R)) :
  Calls prog 21 #[.slice A R.length c] w fun e w'=>e=.returned (.map (some w.heap.size))/\jy w' w.heap.size 100000 (wg0 R)/\Below w.heap.size w w':=by
 have hmm:=@run_makeMap prog;have Hr:=hid hr;have Hs:=hid hs;clear hr hs;have HL0:Hid (Yj (R.take 0) [] 0 (fun _=>none)):=hid (fun g=>⟨fun h=>by simp at h,fun _=>⟨fun _=>rfl,fun h=>by simp[GN]at h⟩⟩);have HF0:Hid (wgX (R.take 0) []=fun _=>none):=hid (by funext g;simp[wgX,GN]);go_enter func21,ntmps21
 go_wp2;clear hmm;go_loopw [15] (fun iv wr=>∃(i:Nat) (La:ByteArray->Option Nat),iv=.int .i64 (i:Int)/\i<=R.length/\Hid (jy wr w.heap.size (600*i) (wgX (R.take i) []))/\Hid (jy wr (w.heap.size+1) (600*i) La)/\Hid (Yj (R.take i) [] i La)/\Hid (Below w.heap.size w wr)) (fun iv _=>R.length-(intOf iv).toNat)
 case atStart=>
  refine⟨0,fun _=>none,rfl,Nat.zero_le _,?_,?_,HL0,?_⟩
  ·rw[HF0.out];exact hid ((EP w).below ((Below.refl _ _).alloc (Nat.le_refl _) _))
  ·have h1:=EP (w.alloc (.map #[] 0));rw[show(w.alloc (.map #[] 0)).heap.size=w.heap.size+1 by simp]at h1;exact hid h1
  ·exact hid (((Below.refl _ _).alloc (Nat.le_refl _) _).alloc (by simp) _)
 case round=>
  obtain⟨i,La,rfl,hi,Hw,Hl,HLa,Hb⟩:=hrel;clear HL0 HF0;by_cases hil:i<R.length
  ·have hrd:=aC Hr.out Hb.out;obtain⟨gA,oA,eA,hcA⟩:=iF hrd (by omega);subst eA;have hcell:=hcA i hil;obtain⟨s,hsd⟩:∃s,s=R[i]:=⟨_,rfl⟩;rw[<-hsd]at hcell;have hss:s.size<=512:=by rw[hsd];exact Hs.out _ (List.getElem_mem hil)
   have Hsd:=hid hsd;have Htk:Hid (R.take (i+1)=R.take i++[s]):=hid (by rw[hsd];exact List.take_succ_eq_append_getElem hil);clear hrd hcA hsd;go_wp2;clear hcell;obtain⟨N,hN⟩:∃N,N=(gms s).length:=⟨_,rfl⟩;have hNs:(s.size:Int)-6+1<=(N:Int)/\(N:Int)<=s.size/\(0<N->(s.size:Int)-6+1=(N:Int)):=by rw[hN,dQ];omega
   obtain⟨hN1,hN2,hN3⟩:=hNs;have hN5:N<=512:=by omega
   have Hlen:=hid hN;clear hN;rename World=>wo
   go_loopw [24] (fun kv wr=>∃(k:Nat) (La:ByteArray->Option Nat),kv=.int .i64 (k:Int)/\k<=N/\Hid (jy wr w.heap.size (600*i+k) (wgX (R.take i) ((gms s).take k)))/\Hid (jy wr (w.heap.size+1) (600*i+k) La)/\Hid (Yj (R.take i) ((gms s).take k) i La)/\Hid (Below w.heap.size w wr)) (fun kv _=>N-(intOf kv).toNat)
   case atStart=>exact⟨0,La,rfl,Nat.zero_le _,Hw,Hl,HLa,Hb⟩
   case round=>
    obtain⟨k,La,rfl,hk,Hw,Hl,HLa,Hb⟩:=hrel;by_cases hkN:k<N
    ·have hlt:(k:Int)<(s.size:Int)-6+1:=by rw[hN3 (by omega)];omega
     have hkl:k<(gms s).length:=by rw[<-Hlen.out];exact hkN
     have hk6:k+6<=s.size:=by rw[dQ]at hkl;omega
     have hsz:(gr s k).size<=maxLen:=by rw[BR s k hk6];unfold maxLen;omega
     have hcut:=aly s k hk6;obtain⟨g,hg⟩:∃g,g=gr s k:=⟨_,rfl⟩;have Hts:Hid ((gms s).take (k+1)=(gms s).take k++[g]):=hid (by rw[lq s k hkl,hg]);rw[<-hg]at hcut hsz;obtain⟨X,hX⟩:∃X,X=(gms s).take k:=⟨_,rfl⟩;rw[<-hX]at Hw HLa Hts;obtain⟨Ar,hAr⟩:∃Ar,Ar=R.take i:=⟨_,rfl⟩;rw[<-hAr]at Hw HLa;have HAr:=hid hAr;have HX:=hid hX;have hcl:GN Ar g<=64:=by
      have h1:=Sq Ar g;have h2:Ar.length<=R.length:=by rw[hAr,List.length_take];omega
      omega
     obtain⟨cc,hcc⟩:∃cc,cc=GN Ar g:=⟨_,rfl⟩;rw[<-hcc]at hcl;have hbn:w.heap.size+1≠w.heap.size:=by omega
     have Hbn:=hid hbn;have hlo:=HLa.out g;have Hst:Hid (Yj Ar (X++[g]) i (QJ La g (some i))):=hid (afk HLa.out g);clear hX hAr hkl hg hbn;by_cases hgX:g∈X
     ·have hv:=hlo.1 hgX;have Hv:Hid ((La g).getD 0=i):=hid (by rw[hv];rfl);have Hok:Hid ((La g).isSome=true):=hid (by rw[hv];rfl);have Hold:=hid (agP Ar X g hgX);clear hlo hgX hv hcc;go_wp2_with (first
       | (at_lookup;refine qc _ rfl _ _ 47 rfl underlying47 (w.heap.size+1) _ _ rfl Hl.out g i true Hv.out Hok.out rfl hsz ?_)
       | (at_mapUpdate;refine nI _ rfl _ _ _ 47 rfl underlying47 (w.heap.size+1) _ _ rfl Hl.out (by omega) g _ i rfl rfl rfl (by omega) hsz ?_;intro w2 hm2 hg2;have Hm2:=hid hm2;have Hg2:=hid hg2;clear hm2 hg2)
       | go_in)
      go_roundw
      case rel=>exact⟨k+1,_,by go_num,by omega,hid (by rw[Hts.out,<-HAr.out,Hold.out];exact(Hw.out.kept Hg2.out (by intro e;injection e with e;exact Hbn.out e.symm)).mono (by omega)),Hm2,hid (by rw[Hts.out,<-HAr.out];exact Hst.out),hid (Hb.out.trans (below_grown Hg2.out (by omega) (Hb.out.size)))⟩
      case measure=>simp[intOf];omega
     ·by_cases hc0:cc=0
      ·have hv:=(hlo.2 hgX).1 (by rw[<-hcc];exact hc0);have Hv:Hid ((La g).getD 0=0):=hid (by rw[hv];rfl);have Hok:Hid ((La g).isSome=false):=hid (by rw[hv];rfl);have uY:Hid (wgX Ar (X++[g])=QJ (wgX Ar X) g (some 0)):=hid (by rw[Xx Ar X g hgX,<-hcc,hc0]);clear hlo hgX hv hcc hc0;go_wp2_with (first
        | (at_lookup;refine qc _ rfl _ _ 47 rfl underlying47 (w.heap.size+1) _ _ rfl Hl.out g 0 false Hv.out Hok.out rfl hsz ?_)
        | (at_mapUpdate;refine nI _ rfl _ _ _ 48 rfl underlying48 w.heap.size _ _ rfl Hw.out (by omega) g _ 0 rfl rfl rfl (by omega) hsz ?_;intro w2 hm2 hg2;have Hm2:=hid hm2;have Hg2:=hid hg2;have Hl2:=hid (Hl.out.kept hg2 (by intro e;injection e with e;exact Hbn.out e));clear hm2 hg2)
        | (at_mapUpdate;refine nI _ rfl _ _ _ 47 rfl underlying47 (w.heap.size+1) _ _ rfl Hl2.out (by omega) g _ i rfl rfl rfl (by omega) hsz ?_;intro w3 hm3 hg3;have Hm3:=hid hm3;have Hg3:=hid hg3;clear hm3 hg3)
        | go_in)
       go_roundw
       case rel=>exact⟨k+1,_,by go_num,by omega,hid (by rw[Hts.out,<-HAr.out,uY.out];exact(Hm2.out.kept Hg3.out (by intro e;injection e with e;exact Hbn.out e.symm))),Hm3,hid (by rw[Hts.out,<-HAr.out];exact Hst.out),hid ((Hb.out.trans (below_grown Hg2.out (by omega) (Hb.out.size))).trans (below_grown Hg3.out (by omega) (Nat.le_trans Hb.out.size Hg2.out.size)))⟩
       case measure=>simp[intOf];omega
      ·obtain⟨b,hbi,hv⟩:=(hlo.2 hgX).2 (by rw[<-hcc];omega);have Hv:Hid ((La g).getD 0=b):=hid (by rw[hv];rfl);have Hok:Hid ((La g).isSome=true):=hid (by rw[hv];rfl);have uY:Hid (wgX Ar (X++[g])=QJ (wgX Ar X) g (some cc)):=hid (by rw[Xx Ar X g hgX,<-hcc]);obtain⟨cd,hcd⟩:∃cd,cc=cd+1:=⟨cc-1,by omega⟩;have Hw2:Hid ((wgX Ar X g).getD 0=cd):=hid (by rw[agQ Ar X g hgX,<-hcc,hcd];rfl);have aqT:cd<=64:=by omega
       have Hcc:Hid ((cd:Int)+1=((cc:Nat):Int)):=hid (by omega);clear hlo hgX hv hcc hc0 hcd;go_wp2_with (first
        | (at_lookup;refine qc _ rfl _ _ 47 rfl underlying47 (w.heap.size+1) _ _ rfl Hl.out g b true Hv.out Hok.out rfl hsz ?_)
        | (at_lookup;refine rW _ rfl _ _ 48 rfl underlying48 w.heap.size _ _ rfl Hw.out g cd Hw2.out rfl hsz ?_)
        | (at_mapUpdate;refine nI _ rfl _ _ _ 48 rfl underlying48 w.heap.size _ _ rfl Hw.out (by omega) g _ cc rfl rfl Hcc.out (by omega) hsz ?_;intro w2 hm2 hg2;have Hm2:=hid hm2;have Hg2:=hid hg2;have Hl2:=hid (Hl.out.kept hg2 (by intro e;injection e with e;exact Hbn.out e));clear hm2 hg2)
        | (at_mapUpdate;refine nI _ rfl _ _ _ 47 rfl underlying47 (w.heap.size+1) _ _ rfl Hl2.out (by omega) g _ i rfl rfl rfl (by omega) hsz ?_;intro w3 hm3 hg3;have Hm3:=hid hm3;have Hg3:=hid hg3;clear hm3 hg3)
        | go_in)
       go_roundw
       case rel=>exact⟨k+1,_,by go_num,by omega,hid (by rw[Hts.out,<-HAr.out,uY.out];exact(Hm2.out.kept Hg3.out (by intro e;injection e with e;exact Hbn.out e.symm))),Hm3,hid (by rw[Hts.out,<-HAr.out];exact Hst.out),hid ((Hb.out.trans (below_grown Hg2.out (by omega) (Hb.out.size))).trans (below_grown Hg3.out (by omega) (Nat.le_trans Hb.out.size Hg2.out.size)))⟩
       case measure=>simp[intOf];omega
    ·have hge:¬(k:Int)<(s.size:Int)-6+1:=by
      by_cases h0:0<N
      ·rw[hN3 h0];omega
      ·omega
     have ahi:k=N:=by omega
     have iy:Hid ((gms s).take k=gms s):=hid (by rw[ahi,Hlen.out,List.take_length]);rw[iy.out]at Hw HLa;have Hw2:Hid (jy wr w.heap.size (600*(i+1)) (wgX (R.take (i+1)) [])):=hid (by rw[Htk.out,<-agO];exact Hw.out.mono (by omega));have aoQ:Hid (Yj (R.take (i+1)) [] (i+1) La):=hid (by rw[Htk.out];exact ajx HLa.out);have Hl2:Hid (jy wr (w.heap.size+1) (600*(i+1)) La):=hid (Hl.out.mono (by omega));clear hN3 ahi iy;go_wp2;go_roundw
     case rel=>exact⟨i+1,La,by go_num,by omega,Hw2,Hl2,aoQ,Hb⟩
     case measure=>simp[intOf];omega
  ·have hiR:i=R.length:=by omega
   have iy:Hid (jy wr w.heap.size 100000 (wg0 R)):=hid (by
    have h1:=Hw.out;rw[hiR,List.take_length]at h1;exact h1.mono (by omega))
   clear hiR;go_wp2;go_ret;exact⟨rfl,iy.out,Hb.out⟩
end Go.Proofs.YtaebnkeddcbmkaaGreat
namespace Go.Proofs.YtaebnkeddcbmkaaGreat.Bm
def dW:List Nat->Nat
 | []=>0
 | b :: l=>b+2*dW l
theorem vF:∀l:List Nat,(∀x∈l,x<2)->dW l<2^l.length
 | [],_=>by simp[dW]
 | b :: l,h=>by
  have h1:=vF l (fun x hx=>h x (List.mem_cons_of_mem _ hx));have h2:=h b List.mem_cons_self;rw[dW,List.length_cons,Nat.pow_succ];omega
theorem zD:∀l:List Nat,(∀x∈l,x<2)->bitsOf (dW l) l.length=l
 | [],_=>rfl
 | b :: l,h=>by
  have h1:=zD l (fun x hx=>h x (List.mem_cons_of_mem _ hx));have h2:=h b List.mem_cons_self;apply List.ext_getElem
  ·rw[aU]
  ·intro i hi hi2;rw[dw];cases i with
   | zero=>rw[dW,List.getElem_cons_zero];omega
   | succ j=>
    have hj:j<l.length:=by simpa using hi2
    have h3:(bitsOf (dW l) l.length)[j]'(by rw[aU];exact hj)=l[j]:=by simp only[h1]
    rw[dw]at h3;rw[dW,List.getElem_cons_succ,Nat.pow_succ,Nat.mul_comm (2^j),<-Nat.div_div_eq_div_mul,show(b+2*dW l)/2=dW l by omega,h3]
theorem nM(N n:Nat)(h:N<2^n):dW (bitsOf N n)=N:=by
 induction n generalizing N with
 | zero=>
   have:N=0:=by simpa using h
   subst this;rfl
 | succ n ih=>
  have e:bitsOf N (n+1)=N%2 :: bitsOf (N/2) n:=by
   unfold bitsOf;rw[List.range_succ_eq_map,List.map_cons,List.map_map];congr 1
   ·simp
   ·refine List.map_congr_left fun i _=>?_
    simp only[Function.comp];rw[Nat.succ_eq_add_one,Nat.pow_succ,Nat.mul_comm (2^i),<-Nat.div_div_eq_div_mul]
  rw[e,dW,ih (N/2) (by rw[Nat.pow_succ]at h;omega)];omega
theorem mV:∀a b:List Nat,dW (a++b)=dW a+dW b*2^a.length
 | [],b=>by simp[dW]
 | x :: a,b=>by
  rw[List.cons_append,dW,mV a b,dW,List.length_cons,Nat.pow_succ];rw[Nat.mul_add,<-Nat.mul_assoc,Nat.mul_comm 2 (dW b),Nat.mul_assoc,Nat.mul_comm 2 (2^a.length)];omega
theorem sH:∀l:List Nat,(∀x∈l,x=0)->dW l=0
 | [],_=>rfl
 | b :: l,h=>by rw[dW,sH l (fun x hx=>h x (List.mem_cons_of_mem _ hx)),h b List.mem_cons_self]
def pO(l:List Nat):List Nat:=bytesOf (dW l) ((l.length+7)/8)
theorem nu(l:List Nat):(pO l).length=(l.length+7)/8:=bytesOf_length _ _
theorem LZ(l:List Nat):∀x∈pO l,x<256:=eH _ _
theorem RI(l:List Nat)(h:∀x∈l,x<2):bitsOf (aW (pO l)) (8*(pO l).length)=l++List.replicate (8*((l.length+7)/8)-l.length) 0:=by
 have hlt:=vF l h;have hle:2^l.length<=256^((l.length+7)/8):=by
  rw[tH];exact Nat.pow_le_pow_right (by omega) (by omega)
 rw[nu,pO,iI,Nat.mod_eq_of_lt (by omega)];have e:8*((l.length+7)/8)=l.length+(8*((l.length+7)/8)-l.length):=by omega
 have h1:=Bq (dW l) l.length 0 (8*((l.length+7)/8)-l.length) hlt;rw[<-e,zD l h]at h1;simp only[Nat.zero_mod,Nat.zero_mul,Nat.add_zero]at h1;rw[<-h1];congr 1
 apply List.ext_getElem
 ·simp[aU]
 ·intro i _ _;rw[dw,List.getElem_replicate,Nat.zero_div]
theorem Va(l z s:List Nat)(hs:∀x∈s,x<256)(h:bitsOf (aW s) (8*s.length)=l++z)(hz:∀x∈z,x=0)(h7:z.length<=7):pO l=s:=by
 have h1:=congrArg dW h;have hv:=lQ s hs;rw[tH]at hv;rw[nM _ _ hv,mV,sH z hz,Nat.zero_mul,Nat.add_zero]at h1;have h2:=congrArg List.length h;rw[aU,List.length_append]at h2;unfold pO;rw[<-h1,show(l.length+7)/8=s.length by omega,mW s hs]
def aY(ls:List Nat)(s:Nat):List Nat:=(List.range (ls[s]?.getD 0)).map fun j=>eX ls s/2^(ls[s]?.getD 0-1-j)%2
theorem aQ(ls:List Nat)(s:Nat):(aY ls s).length=ls[s]?.getD 0:=by simp[aY]
theorem kW(ls:List Nat)(s:Nat):∀x∈aY ls s,x<2:=fun x hx=>by
 unfold aY at hx;obtain⟨i,_,rfl⟩:=List.mem_map.1 hx;exact Nat.mod_lt _ (by omega)
theorem wJ(ls:List Nat)(s j:Nat)(h:j<(aY ls s).length):(aY ls s)[j]=eX ls s/2^(ls[s]?.getD 0-1-j)%2:=by simp[aY]
theorem uG(ls:List Nat)(i k:Nat)(hi:i<ls.length)(hk:k<ls.length)(h:bC ls)(h0:0<ls[i]?.getD 0)(hik:ls[i]?.getD 0<=ls[k]?.getD 0)(hp:aY ls i <+: aY ls k):i=k:=by
 apply Classical.byContradiction
 intro hne;have hk0:0<ls[k]?.getD 0:=by omega
 refine GR ls i k hi hk h hne h0 hik ?_;have hci:=vH ls i hi h h0;have hck:=vH ls k hk h hk0;obtain⟨d,hd⟩:∃d,ls[k]?.getD 0=ls[i]?.getD 0+d:=⟨ls[k]?.getD 0-ls[i]?.getD 0,by omega⟩;rw[hd,Nat.add_sub_cancel_left];have hcd:eX ls k/2^d<2^(ls[i]?.getD 0):=by
  rw[Nat.div_lt_iff_lt_mul (Nat.two_pow_pos d),<-Nat.pow_add,<-hd];exact hck
 rw[<-nM _ _ hcd,<-nM _ _ hci];congr 1
 apply List.ext_getElem
 ·simp[aU]
 ·intro t h1 h2;rw[aU]at h1;rw[dw,dw,Nat.div_div_eq_div_mul,<-Nat.pow_add];have hj:ls[i]?.getD 0-1-t<(aY ls i).length:=by rw[aQ];omega
  have e:=hp.getElem hj;rw[wJ,wJ]at e;rw[show ls[i]?.getD 0-1-(ls[i]?.getD 0-1-t)=t by omega,show ls[k]?.getD 0-1-(ls[i]?.getD 0-1-t)=d+t by omega]at e;exact e.symm
theorem tN(ls:List Nat)(i k:Nat)(hi:i<ls.length)(hk:k<ls.length)(h:bC ls)(h0:0<ls[i]?.getD 0)(h1:0<ls[k]?.getD 0)(l:List Nat)(hp:aY ls i <+: l)(hq:aY ls k <+: l):i=k:=by
 rcases Nat.le_total (ls[i]?.getD 0) (ls[k]?.getD 0)with hle | hle
 ·exact uG ls i k hi hk h h0 hle (List.prefix_of_prefix_length_le hp hq (by rw[aQ,aQ];exact hle))
 ·exact(uG ls k i hk hi h h1 hle (List.prefix_of_prefix_length_le hq hp (by rw[aQ,aQ];exact hle))).symm
def encS(ls:List Nat):List Nat->Option (List Nat)
 | []=>some []
 | b :: bs=>if 0<ls[b]?.getD 0 then(encS ls bs).map (aY ls b++·)else none
def QB(ls bs:List Nat):Option (List Nat):=(encS ls bs).map pO
theorem SH(ls:List Nat):∀(bs l:List Nat),encS ls bs=some l->∀x∈l,x<2
 | [],l,h=>by injection h with h;subst h;simp
 | b :: bs,l,h=>by
  unfold encS at h;split at h
  ·cases hr:encS ls bs with
   | none=>rw[hr]at h;cases h
   | some r=>
    rw[hr,Option.map_some]at h;injection h with h
    subst h;intro x hx;rcases List.mem_append.1 hx with hx | hx
    ·exact kW ls b x hx
    ·exact SH ls bs r hr x hx
  ·cases h
theorem El(ls:List Nat)(b:Nat):∀a:List Nat,encS ls (a++[b])=if 0<ls[b]?.getD 0 then(encS ls a).map (·++aY ls b)else none
 | []=>by
  simp only[List.nil_append,encS];split<;>simp
 | x :: a=>by
  rw[List.cons_append,encS,El ls b a,encS];split<;>split<;>simp[Function.comp_def]
  all_goals cases encS ls a<;>simp
theorem Ej(ls:List Nat)(b:Nat)(h0:ls[b]?.getD 0=0):∀bs:List Nat,b∈bs->encS ls bs=none
 | [],h=>by cases h
 | x :: bs,h=>by
  rw[encS];rcases List.mem_cons.1 h with rfl | h
  ·rw[if_neg (by omega)]
  ·rw[Ej ls b h0 bs h];split<;>rfl
def BJ(ls bs:List Nat):Nat:=(bs.map fun b=>ls[b]?.getD 0).sum
theorem wU(ls:List Nat):∀(bs l:List Nat),encS ls bs=some l->l.length=BJ ls bs
 | [],l,h=>by injection h with h;subst h;rfl
 | b :: bs,l,h=>by
  unfold encS at h;split at h
  ·cases hr:encS ls bs with
   | none=>rw[hr]at h;cases h
   | some r=>
    rw[hr,Option.map_some]at h;injection h with h
    subst h;rw[List.length_append,aQ,wU ls bs r hr];simp[BJ]
  ·cases h
theorem En(ls:List Nat):∀bs:List Nat,(∀b∈bs,0<ls[b]?.getD 0)->∃l,encS ls bs=some l
 | [],_=>⟨[],rfl⟩
 | b :: bs,h=>by
  obtain⟨l,hl⟩:=En ls bs (fun x hx=>h x (List.mem_cons_of_mem _ hx));exact⟨aY ls b++l,by rw[encS,if_pos (h b List.mem_cons_self),hl];rfl⟩
def ES(ls l:List Nat):Nat->Option Nat
 | 0=>none
 | q+1=>if 0<ls[q]?.getD 0/\aY ls q <+: l then some q else ES ls l q
def LH(ls l:List Nat):Option Nat:=ES ls l ls.length
theorem Af(ls l:List Nat):∀q k,ES ls l q=some k->k<q/\0<ls[k]?.getD 0/\aY ls k <+: l
 | 0,k,h=>by cases h
 | q+1,k,h=>by
  unfold ES at h;split at h
  ·next hc=>injection h with h;subst h;exact⟨by omega,hc.1,hc.2⟩
  ·obtain⟨h1,h2⟩:=Af ls l q k h;exact⟨by omega,h2⟩
theorem LJ(ls l:List Nat)(k:Nat)(h:bC ls)(h0:0<ls[k]?.getD 0)(hp:aY ls k <+: l):∀q,k<q->q<=ls.length->ES ls l q=some k
 | 0,hk,_=>by omega
 | q+1,hk,hq=>by
  unfold ES;split
  ·next hc=>rw[tN ls k q (by omega) (by omega) h h0 hc.1 l hp hc.2]
  ·next hc=>
   by_cases e:k=q
   ·subst e;exact absurd ⟨h0,hp⟩ hc
   ·exact LJ ls l k h h0 hp q (by omega) (by omega)
theorem UC(ls l:List Nat)(k:Nat)(h:bC ls)(hk:k<ls.length)(h0:0<ls[k]?.getD 0)(hp:aY ls k <+: l):LH ls l=some k:=LJ ls l k h h0 hp _ hk (Nat.le_refl _)
def yT(ls:List Nat):Nat->List Nat->Option (List Nat×List Nat)
 | 0,l=>some ([],l)
 | n+1,l=>(LH ls l).bind fun k=>(yT ls n (l.drop (ls[k]?.getD 0))).map fun t=>(k :: t.1,t.2)
def aiw(t:List Nat×List Nat):Option (List Nat):=if t.2.length<=7/\∀x∈t.2,x=0 then some t.1 else none
def NI(ls s:List Nat)(n:Nat):Option (List Nat):=(yT ls n (bitsOf (aW s) (8*s.length))).bind aiw
theorem ng(ls:List Nat)(k:Nat)(h:0<ls[k]?.getD 0):k<ls.length:=by
 rcases Nat.lt_or_ge k ls.length with h1 | h1
 ·exact h1
 ·rw[List.getElem?_eq_none h1]at h;simp at h
theorem KP(ls:List Nat)(h:bC ls)(z:List Nat):∀(bs l:List Nat),encS ls bs=some l->yT ls bs.length (l++z)=some (bs,z)
 | [],l,e=>by injection e with e;subst e;rfl
 | b :: bs,l,e=>by
  unfold encS at e;split at e
  ·next h0=>
   cases hr:encS ls bs with
   | none=>rw[hr]at e;cases e
   | some r=>
    rw[hr,Option.map_some]at e;injection e with e
    subst e;rw[List.length_cons,yT,List.append_assoc,UC ls _ b h (ng ls b h0) h0 (List.prefix_append _ _),Option.bind_some];have hd:(aY ls b++(r++z)).drop (ls[b]?.getD 0)=r++z:=by rw[<-aQ ls b,List.drop_left]
    rw[hd,KP ls h z bs r hr];rfl
  ·cases e
theorem YP(ls bs s:List Nat)(h:bC ls)(e:QB ls bs=some s):NI ls s bs.length=some bs:=by
 unfold QB at e;cases hr:encS ls bs with
 | none=>rw[hr]at e;cases e
 | some l=>
  rw[hr,Option.map_some]at e;injection e with e
  subst e;unfold NI;rw[RI l (SH ls bs l hr),KP ls h _ bs l hr,Option.bind_some];unfold aiw;rw[if_pos ⟨by rw[List.length_replicate];omega,fun x hx=>(List.mem_replicate.1 hx).2⟩]
theorem KR(ls:List Nat):∀(n:Nat) (l d r:List Nat),yT ls n l=some (d,r)->d.length=n/\(∀x∈d,x<ls.length)/\∃e,encS ls d=some e/\l=e++r
 | 0,l,d,r,h=>by
  unfold yT at h;injection h with h
  injection h with h1 h2
  subst h1 h2;exact⟨rfl,by simp,[],rfl,rfl⟩
 | n+1,l,d,r,h=>by
  unfold yT at h;cases hm:LH ls l with
  | none=>rw[hm]at h;cases h
  | some k=>
   rw[hm,Option.bind_some]at h;obtain⟨hk,h0,hp⟩:=Af ls l _ k hm;cases hr:yT ls n (l.drop (ls[k]?.getD 0))with
   | none=>rw[hr]at h;cases h
   | some t=>
    obtain⟨d',r'⟩:=t;rw[hr,Option.map_some]at h;injection h with h
    injection h with h1 h2
    subst h1 h2;obtain⟨g1,g2,e,g3,g4⟩:=KR ls n _ d' r' hr;refine⟨by rw[List.length_cons,g1],?_,aY ls k++e,by rw[encS,if_pos h0,g3];rfl,?_⟩
    ·intro x hx;rcases List.mem_cons.1 hx with rfl | hx
     ·exact hk
     ·exact g2 x hx
    ·obtain⟨t,rfl⟩:=hp;rw[<-aQ ls k,List.drop_left]at g4;rw[g4,List.append_assoc]
theorem BN(ls s d:List Nat)(n:Nat)(hs:∀x∈s,x<256)(h:NI ls s n=some d):QB ls d=some s/\d.length=n/\∀x∈d,x<ls.length:=by
 unfold NI at h;cases hr:yT ls n (bitsOf (aW s) (8*s.length))with
 | none=>rw[hr]at h;cases h
 | some t=>
  obtain⟨d',r⟩:=t;rw[hr,Option.bind_some]at h;unfold aiw at h;split at h
  ·next hc=>
   injection h with h
   simp only at h hc;subst h;obtain⟨g1,g2,e,g3,g4⟩:=KR ls n _ d' r hr;refine⟨?_,g1,g2⟩;unfold QB;rw[g3,Option.map_some,Va e r s hs g4 hc.2 hc.1]
  ·cases h
theorem fH:∀l:List Nat,∃m,l=aI l++List.replicate m 0
 | []=>⟨0,rfl⟩
 | n :: l=>by
  unfold aI;split
  ·next h=>
   obtain⟨m,hm⟩:=fH l;have hs:aI l=[]:=by
    cases l with
    | nil=>rfl
    | cons a l'=>unfold aI;rw[if_pos (by rw[List.sum_cons]at h;omega)]
   rw[hs,List.nil_append]at hm;refine⟨m+1,?_⟩;rw[List.nil_append,List.replicate_succ,<-hm,show n=0 by omega]
  ·obtain⟨m,hm⟩:=fH l;exact⟨m,by rw[List.cons_append,<-hm]⟩
theorem short_zero(l:List Nat)(h:aI l=[]):∀x∈l,x=0:=by
 obtain⟨m,hm⟩:=fH l;rw[h,List.nil_append]at hm;intro x hx;rw[hm]at hx;exact(List.mem_replicate.1 hx).2
theorem yh:∀l:List Nat,aI (aI l)=aI l
 | []=>rfl
 | n :: l=>by
  by_cases h:n+l.sum=0
  ·rw[aI,if_pos h];rfl
  ·rw[aI,if_neg h,aI];obtain⟨m,hm⟩:=fH l;have hs:(aI l).sum=l.sum:=by
    have:=congrArg List.sum hm;rw[List.sum_append_nat,List.sum_replicate_nat,Nat.mul_zero,Nat.add_zero]at this;exact this.symm
   rw[hs,if_neg h,yh l]
theorem Ug(l:List Nat)(m:Nat):krN (l++List.replicate m 0)=krN l/\jq (l++List.replicate m 0)=jq l:=by
 constructor
 ·unfold krN;rw[List.map_append,List.sum_append_nat,List.map_replicate,List.sum_replicate_nat];simp[dD]
 ·unfold jq;rw[List.countP_append,List.countP_replicate];simp
theorem pY(l:List Nat)(h:bC l):bC (aI l)/\0<(aI l).length:=by
 obtain⟨m,hm⟩:=fH l;obtain⟨h1,h2,h3⟩:=h;have e:=Ug (aI l) m;rw[<-hm]at e;refine⟨⟨?_,fun x hx=>h2 x (by rw[hm];exact List.mem_append_left _ hx),?_⟩,?_⟩
 ·have:=congrArg List.length hm;rw[List.length_append]at this;omega
 ·rw[<-e.1,<-e.2];exact h3
 ·rcases Nat.eq_zero_or_pos (aI l).length with h0 | h0
  ·have h4:=List.eq_nil_of_length_eq_zero h0;have h5:krN l=0:=by rw[e.1,h4];rfl
   omega
  ·exact h0
def qR(l:List Nat)(k:Nat):Nat:=l[2*k]?.getD 0+16*l[2*k+1]?.getD 0
def bR(l:List Nat):List Nat:=(l.length-1) :: (List.range ((l.length+1)/2)).map (qR l)
theorem dK(l:List Nat):(bR l).length=1+(l.length+1)/2:=by simp[bR];omega
theorem Es{l:List Nat}{b:Nat}(h:∀x∈l,x<=b)(i:Nat):l[i]?.getD 0<=b:=by
 cases e:l[i]? with
 | none=>simp
 | some x=>exact h x (List.mem_of_getElem? e)
theorem afP{l:List Nat}(h:∀x∈l,x<=11)(k:Nat):qR l k<=187:=by
 have h1:=Es h (2*k);have h2:=Es h (2*k+1);unfold qR;omega
theorem yC(l:List Nat)(h:∀x∈l,x<=11)(hl:l.length<=256):∀x∈bR l,x<256:=by
 intro x hx;unfold bR at hx;rcases List.mem_cons.1 hx with rfl | hx
 ·omega
 ·obtain⟨k,_,rfl⟩:=List.mem_map.1 hx;have:=afP h k;omega
def vB(bs:List Nat)(i:Nat):Nat:=if i%2=1 then bs[1+i/2]?.getD 0/16%16 else bs[1+i/2]?.getD 0%16
def uQ(bs:List Nat)(n:Nat):List Nat:=(List.range n).map (vB bs)
theorem gW(bs:List Nat)(n:Nat):(uQ bs n).length=n:=by simp[uQ]
def jl(bs:List Nat):Option (List Nat×Nat):=
 if bs=[]then none else
 if bs.length<1+(bs[0]?.getD 0+2)/2 then none else
 if bC (uQ bs (bs[0]?.getD 0+1))/\bR (aI (uQ bs (bs[0]?.getD 0+1)))=bs.take (1+(bs[0]?.getD 0+2)/2)then some (uQ bs (bs[0]?.getD 0+1),1+(bs[0]?.getD 0+2)/2)else none
theorem Mi(bs l:List Nat)(n:Nat)(h:jl bs=some (l,n)):n<=bs.length/\0<n/\l.length<=bs[0]?.getD 0+1:=by
 unfold jl at h;split at h
 ·cases h
 ·split at h
  ·cases h
  ·split at h
   ·injection h with h
    injection h with h1 h2
    subst h1 h2;rw[gW];omega
   ·cases h
theorem OM(l rest:List Nat)(h:∀x∈l,x<=11):uQ (bR l++rest) l.length=l:=by
 apply List.ext_getElem
 ·rw[gW]
 ·intro i h1 h2;rw[gW]at h1;have hk:i/2<(l.length+1)/2:=by omega
  have e:(bR l++rest)[1+i/2]?.getD 0=qR l (i/2):=by
   rw[List.getElem?_append_left (by rw[dK];omega),Nat.add_comm,bR,List.getElem?_cons_succ,List.getElem?_map,List.getElem?_range hk];rfl
  have g1:=Es h (2*(i/2));have g2:=Es h (2*(i/2)+1);have e2:l[i]=l[i]?.getD 0:=by rw[List.getElem?_eq_getElem h2,Option.getD_some]
  simp only[uQ,List.getElem_map,List.getElem_range];rw[vB,e,e2];unfold qR;split
  ·next ho=>
   rw[show 2*(i/2)+1=i by omega]at g2 ⊢;omega
  ·next ho=>
   rw[show 2*(i/2)=i by omega]at g1 g2 ⊢;omega
theorem Pk(l rest:List Nat)(h:bC l):jl (bR (aI l)++rest)=some (aI l,(bR (aI l)).length):=by
 obtain⟨h1,h2⟩:=pY l h;have e0:(bR (aI l)++rest)[0]?.getD 0=(aI l).length-1:=by
  rw[List.getElem?_append_left (by rw[dK];omega)];rfl
 have hn:=OM (aI l) rest h1.2.1;have hl:(bR (aI l)).length=1+((aI l).length+1)/2:=dK _;have e1:(aI l).length-1+1=(aI l).length:=by omega
 have e2:1+((aI l).length-1+2)/2=(bR (aI l)).length:=by rw[hl];omega
 unfold jl;rw[e0,e1,e2,hn,yh,List.take_left,if_neg (by intro e;have:=congrArg List.length e;rw[List.length_append,List.length_nil]at this;omega),if_neg (by rw[List.length_append];omega),if_pos ⟨h1,rfl⟩]
def oZ(ls t:List Nat)(n:Nat):Option (List Nat×Nat):=
 if 0<(au t).2/\(au t).1<=t.length-(au t).2 then(NI ls ((t.drop (au t).2).take (au t).1) n).map fun b=>(b,(au t).2+(au t).1)else none
def eG(k n:Nat)(t:List Nat):Option (List Nat×Nat):=
 if k=0 then(if n<=t.length then some (t.take n,n)else none)
 else if k=1 then(if 0<t.length then some (List.replicate n (t[0]?.getD 0),1)else none)
 else if k=2 then(match jl t with
  | none=>none
  | some p=>(oZ p.1 (t.drop p.2) n).map fun q=>(q.1,p.2+q.2))
 else none
def vk(bs:List Nat)(most:Int):Option (List Nat×Nat):=
 match bs with
 | []=>none
 | k :: r=>if 0<(au r).2/\((au r).1:Int)<=most/\(au r).1<=1048576 then(eG k (au r).1 (r.drop (au r).2)).map fun q=>(q.1,1+(au r).2+q.2)else none
theorem eT(p q:List Nat)(h:0<(au p).2):au (p++q)=au p/\(au p).2<=p.length:=by
 obtain⟨v,k,e⟩:∃v k,au p=(v,k):=⟨_,_,rfl⟩;rw[e]at h ⊢;obtain⟨h1,h2,h3⟩:=gK p v k h e;refine⟨?_,h3⟩;have e2:p++q=grp v++(p.drop k++q):=by rw[<-List.append_assoc,<-h2,List.take_append_drop]
 rw[e2,fK v _ h1,<-h2,List.length_take,Nat.min_eq_left h3]
theorem OL(p q:List Nat)(i:Nat)(h:1+i/2<p.length):vB (p++q) i=vB p i:=by
 unfold vB;rw[List.getElem?_append_left h]
theorem Fq(p q:List Nat)(t:List Nat×Nat)(h:jl p=some t):jl (p++q)=some t:=by
 unfold jl at h ⊢;split at h
 ·cases h
 ·next h1=>
  split at h
  ·cases h
  ·next h2=>
   have h0:0<p.length:=List.length_pos_iff.2 h1;have e0:(p++q)[0]?.getD 0=p[0]?.getD 0:=by rw[List.getElem?_append_left h0]
   have en:uQ (p++q) (p[0]?.getD 0+1)=uQ p (p[0]?.getD 0+1):=by
    refine List.map_congr_left fun i hi=>OL p q i ?_
    have:=List.mem_range.1 hi;omega
   have et:(p++q).take (1+(p[0]?.getD 0+2)/2)=p.take (1+(p[0]?.getD 0+2)/2):=List.take_append_of_le_length (by omega);rw[if_neg (by simp[h1]),e0,if_neg (by rw[List.length_append];omega),en,et];exact h
theorem Ea(ls t u:List Nat)(n:Nat)(r:List Nat×Nat)(h:oZ ls t n=some r):oZ ls (t++u) n=some r/\r.2<=t.length:=by
 unfold oZ at h ⊢;split at h
 ·next hc=>
  obtain⟨e,hle⟩:=eT t u hc.1;rw[e,if_pos ⟨hc.1,by rw[List.length_append];omega⟩,List.drop_append_of_le_length hle,List.take_append_of_le_length (by rw[List.length_drop];exact hc.2)];refine⟨h,?_⟩;cases hd:NI ls ((t.drop (au t).2).take (au t).1) n with
  | none=>rw[hd]at h;cases h
  | some b=>
   rw[hd]at h;injection h with h
   subst h;show(au t).2+(au t).1<=t.length;omega
 ·cases h
theorem DU(k n:Nat)(t u:List Nat)(r:List Nat×Nat)(h:eG k n t=some r):eG k n (t++u)=some r/\r.2<=t.length:=by
 unfold eG at h ⊢;by_cases h0:k=0
 ·rw[if_pos h0]at h ⊢;by_cases hn:n<=t.length
  ·rw[if_pos hn]at h;rw[if_pos (by rw[List.length_append];omega),List.take_append_of_le_length hn];injection h with h
   subst h;exact⟨rfl,hn⟩
  ·rw[if_neg hn]at h;cases h
 ·rw[if_neg h0]at h ⊢;by_cases h1:k=1
  ·rw[if_pos h1]at h ⊢;by_cases hn:0<t.length
   ·rw[if_pos hn]at h;rw[if_pos (by rw[List.length_append];omega),List.getElem?_append_left hn];injection h with h
    subst h;exact⟨rfl,hn⟩
   ·rw[if_neg hn]at h;cases h
  ·rw[if_neg h1]at h ⊢;by_cases h2:k=2
   ·rw[if_pos h2]at h ⊢;cases hr:jl t with
    | none=>rw[hr]at h;cases h
    | some p=>
     rw[hr]at h;dsimp only at h;have hp:=(Mi t p.1 p.2 hr).1;cases hc:oZ p.1 (t.drop p.2) n with
     | none=>rw[hc]at h;cases h
     | some q=>
      rw[hc]at h;injection h with h
      subst h;obtain⟨e1,e2⟩:=Ea p.1 (t.drop p.2) u n q hc;rw[Fq t u p hr];dsimp only;rw[List.drop_append_of_le_length hp,e1];rw[List.length_drop]at e2;refine⟨rfl,?_⟩;show p.2+q.2<=t.length;omega
   ·rw[if_neg h2]at h;cases h
theorem pq(p u:List Nat)(m:Int)(r:List Nat×Nat)(h:vk p m=some r):vk (p++u) m=some r/\r.2<=p.length:=by
 cases p with
 | nil=>cases h
 | cons k t=>
  rw[List.cons_append];unfold vk at h ⊢;dsimp only at h ⊢;split at h
  ·next hc=>
   obtain⟨e,hle⟩:=eT t u hc.1;rw[e,if_pos hc,List.drop_append_of_le_length hle];cases hb:eG k (au t).1 (t.drop (au t).2)with
   | none=>rw[hb]at h;cases h
   | some q=>
    rw[hb]at h;injection h with h
    subst h;obtain⟨e1,e2⟩:=DU k _ _ u q hb;rw[e1];rw[List.length_drop]at e2;refine⟨rfl,?_⟩;rw[List.length_cons];show 1+(au t).2+q.2<=_;omega
  ·cases h
theorem YO(E:List Nat)(m:Int)(x:List Nat)(h:vk E m=some (x,E.length))(j:Nat)(hj:j<E.length):vk (E.take j) m=none:=by
 cases hc:vk (E.take j) m with
 | none=>rfl
 | some r=>
  obtain⟨h1,h2⟩:=pq (E.take j) (E.drop j) m r hc;rw[List.take_append_drop,h]at h1;injection h1 with h1
  subst h1;rw[List.length_take]at h2;dsimp only at h2;omega
theorem wQ(k n:Nat)(t x:List Nat)(hn:n<=1048576)(hb:eG k n t=some (x,t.length)):vk (k :: (grp n++t)) (n:Int)=some (x,(k :: (grp n++t)).length):=by
 unfold vk;dsimp only;rw[fK n t (by omega)];dsimp only;rw[if_pos ⟨pE n (by omega),Int.le_refl _,hn⟩,List.drop_left,hb,Option.map_some,List.length_cons,List.length_append];dsimp only;rw[show 1+(grp n).length+t.length=(grp n).length+t.length+1 by omega]
theorem Yz(s:List Nat):eG 0 s.length s=some (s,s.length):=by
 unfold eG;rw[if_pos rfl,if_pos (Nat.le_refl _),List.take_length]
theorem Nl(x n:Nat):eG 1 n [x]=some (List.replicate n x,1):=by
 unfold eG;rw[if_neg (by decide),if_pos rfl,if_pos (show 0<[x].length by simp)];rfl
theorem Nn(ls c s:List Nat)(hW:bC ls)(hs:aI ls=ls)(he:QB ls s=some c)(hc:c.length<2^64) :
  eG 2 s.length (bR ls++(grp c.length++c))=some (s,(bR ls++(grp c.length++c)).length):=by
 have h1:=Pk ls (grp c.length++c) hW;rw[hs]at h1;unfold eG;rw[if_neg (by decide),if_neg (by decide),if_pos rfl,h1];dsimp only;rw[List.drop_left];unfold oZ;rw[fK _ _ hc];dsimp only;rw[if_pos ⟨pE _ hc,by rw[List.length_append];omega⟩,List.drop_left,List.take_length,YP ls s c hW he,Option.map_some,Option.map_some];simp only[List.length_append]
def adZ(s E:List Nat):Prop:=(∃k t,E=k :: (grp s.length++t))/\(∀x∈E,x<256)/\E.length<=1+(grp s.length).length+s.length/\vk E (s.length:Int)=some (s,E.length)
def QG(s:List Nat):List Nat:=0 :: (grp s.length++s)
def DF(s:List Nat):List Nat:=1 :: (grp s.length++s.take 1)
theorem xV(s:List Nat):(QG s).length=1+(grp s.length).length+s.length:=by rw[QG,List.length_cons,List.length_append];omega
theorem AA(k n:Nat)(t:List Nat)(hk:k<256)(hn:n<2^64)(ht:∀x∈t,x<256):∀x∈k :: (grp n++t),x<256:=by
 intro x hx;rcases List.mem_cons.1 hx with rfl | hx
 ·exact hk
 ·rcases List.mem_append.1 hx with hx | hx
  ·exact lU n hn x hx
  ·exact ht x hx
theorem agm(s:List Nat)(hlt:∀x∈s,x<256)(hn:s.length<=1048576):adZ s (QG s):=
 ⟨⟨0,s,rfl⟩,AA 0 _ s (by decide) (by omega) hlt,by rw[xV];exact Nat.le_refl _,wQ 0 s.length s s hn (Yz s)⟩
theorem Wj(s:List Nat)(hlt:∀x∈s,x<256)(hn:s.length<=1048576)(h:kR (aG s)=1):adZ s (DF s):=by
 obtain⟨x,e,h0⟩:=xG s h;have e1:s.take 1=[x]:=by
  rw[e,List.take_replicate,Nat.min_eq_left (by omega)];rfl
 have hx:x<256:=hlt x (by rw[e];exact List.mem_replicate.2 ⟨by omega,rfl⟩);refine⟨⟨1,s.take 1,rfl⟩,AA 1 _ _ (by decide) (by omega) (fun y hy=>hlt y (List.mem_of_mem_take hy)),?_,?_⟩
 ·rw[DF,e1,List.length_cons,List.length_append,List.length_cons,List.length_nil];omega
 ·have hb:=Nl x s.length;rw[<-e,<-e1]at hb;refine wQ 1 s.length (s.take 1) s hn ?_;rw[hb,e1];rfl
def gI(ls c s:List Nat):List Nat:=2 :: (grp s.length++(bR ls++(grp c.length++c)))
theorem Wm(ls c s:List Nat)(hn:s.length<=1048576)(hW:bC ls)(hs:aI ls=ls)(he:QB ls s=some c)(hc:c.length<=1000000000)(hc256:∀x∈c,x<256)(hle:(gI ls c s).length<(QG s).length):adZ s (gI ls c s):=by
 refine⟨⟨2,_,rfl⟩,AA 2 _ _ (by decide) (by omega) (fun x hx=>?_),?_,wQ 2 s.length _ s hn (Nn ls c s hW hs he (by omega))⟩
 ·rcases List.mem_append.1 hx with hx | hx
  ·exact yC ls hW.2.1 hW.1 x hx
  ·rcases List.mem_append.1 hx with hx | hx
   ·exact lU _ (by omega) x hx
   ·exact hc256 x hx
 ·rw[xV]at hle;omega
theorem xY(bs:List Nat)(t:List Nat×Nat)(h:jl bs=some t):bC t.1:=by
 unfold jl at h;split at h
 ·cases h
 ·split at h
  ·cases h
  ·split at h
   ·next hc=>
    injection h with h
    subst h;exact hc.1
   ·cases h
end Go.Proofs.YtaebnkeddcbmkaaGreat.Bm
namespace Go.Proofs.YtaebnkeddcbmkaaGreat
namespace Bm
theorem Kn(p u:List Nat)(r:List Nat×Nat)(h:rQ p=some r):rQ (p++u)=some r/\r.2<=p.length:=by
 refine⟨?_,(adw p r h).2.1⟩;unfold rQ at h ⊢;split at h
 ·next hc=>
  obtain⟨e,hl⟩:=eT p u hc.1;rw[e,if_pos ⟨hc.1,hc.2.1,by rw[List.length_append];omega⟩,<-h];generalize (au p).1=n at *;generalize (au p).2=k at *;rw[List.drop_append_of_le_length hl,List.take_append_of_le_length (by rw[List.length_drop];omega)]
 ·cases h
theorem nO(p u:List Nat)(k:Nat)(h:k<=p.length):(p++u).drop k=p.drop k++u:=List.drop_append_of_le_length h
theorem PG(p u:List Nat)(n:Nat)(r:List Nat×Nat)(h:fG p n=some r):fG (p++u) n=some r/\r.2<=p.length:=by
 unfold fG at h ⊢;cases h1:rQ p with
 | none=>rw[h1]at h;cases h
 | some a=>
  obtain⟨e1,l1⟩:=Kn p u a h1;rw[h1]at h;rw[e1];dsimp only at h ⊢;rw[nO p u a.2 l1];cases h2:rQ (p.drop a.2)with
  | none=>rw[h2]at h;cases h
  | some b=>
   obtain⟨e2,l2⟩:=Kn (p.drop a.2) u b h2;rw[h2]at h;rw[e2];dsimp only at h ⊢;refine⟨h,?_⟩;rw[List.length_drop]at l2;split at h
   ·cases h
   ·next hd _=>
    cases h3:BL hd.1 hd.2 b.1 (n:Int)with
    | none=>rw[h3]at h;cases h
    | some c=>
     rw[h3]at h;injection h with h
     subst h;show a.2+b.2<=_;omega
theorem WI(p u:List Nat)(n:Nat)(r:List Nat×Nat)(h:FL p n=some r):FL (p++u) n=some r/\r.2<=p.length:=by
 have key:∀r,oJ p n=some r->oJ (p++u) n=some r/\r.2<=p.length:=by
  intro r h;cases p with
  | nil=>cases h
  | cons k t=>
   rw[List.cons_append];rcases Nat.lt_or_ge 2 k with h3 | h3
   ·rw[Mj k t n h3]at h;cases h
   ·rcases(by omega:k=0\/k=1\/k=2)with rfl | rfl | rfl
    ·rw[Fu]at h ⊢;split at h
     ·next hc=>
      injection h with h
      subst h;rw[if_pos (by rw[List.length_append];omega),List.take_append_of_le_length hc];exact⟨rfl,by show 1+n<=_;rw[List.length_cons];omega⟩
     ·cases h
    ·rw[Fv]at h ⊢;split at h
     ·next hc=>
      injection h with h
      subst h;rw[if_pos (by rw[List.length_append];omega),List.getElem?_append_left hc];exact⟨rfl,by show 2<=_;rw[List.length_cons];omega⟩
     ·cases h
    ·rw[Fw]at h ⊢;cases hs:fG t n with
     | none=>rw[hs]at h;cases h
     | some q=>
      obtain⟨e,l⟩:=PG t u n q hs;rw[hs]at h;injection h with h
      subst h;rw[e];exact⟨rfl,by show 1+q.2<=_;rw[List.length_cons];omega⟩
 unfold FL at h ⊢;cases hr:oJ p n with
 | none=>rw[hr]at h;cases h
 | some q=>
  obtain⟨e,l⟩:=key q hr;rw[hr]at h;rw[e];dsimp only at h ⊢;refine⟨h,?_⟩;split at h
  ·injection h with h
   subst h;exact l
  ·cases h
theorem MG(u:List Nat)(n:Nat):∀(k:Nat) (p:List Nat) (r:List (List Nat)×Nat),gH k p n=some r->gH k (p++u) n=some r
 | 0,_,_,h=>h
 | k+1,p,r,h=>by
  unfold gH at h ⊢;cases hs:FL p n with
  | none=>rw[hs]at h;cases h
  | some q=>
   obtain⟨e,l⟩:=WI p u n q hs;rw[hs]at h;rw[e];dsimp only at h ⊢;rw[nO p u q.2 l];cases hq:gH k (p.drop q.2) n with
   | none=>rw[hq]at h;cases h
   | some t=>
    rw[hq]at h;rw[MG u n k (p.drop q.2) t hq];exact h
theorem JY(n:Nat):∀(k:Nat) (bs:List Nat) (r:List (List Nat)×Nat),gH k bs n=some r->r.2<=bs.length
 | 0,bs,r,h=>by
  injection h with h
  subst h;exact Nat.zero_le _
 | k+1,bs,r,h=>by
  unfold gH at h;cases hs:FL bs n with
  | none=>rw[hs]at h;cases h
  | some q=>
   rw[hs]at h;dsimp only at h;cases hq:gH k (bs.drop q.2) n with
   | none=>rw[hq]at h;cases h
   | some p=>
    rw[hq]at h;injection h with h
    subst h;have h1:=(WI bs [] n q hs).2;have h2:=JY n k _ p hq;rw[List.length_drop]at h2;show q.2+p.2<=bs.length;omega
theorem ME:∀(l:List (List Nat)) (V L:Nat) (r:Int×Int×Int) (q:List Stp×Nat×Nat),mE l V L r=some q->q.1.length=l.length
 | [],V,L,r,q,h=>by
  injection h with h
  subst h;rfl
 | c :: l,V,L,r,q,h=>by
  unfold mE at h;cases hs:pK c V L with
  | none=>rw[hs]at h;cases h
  | some t=>
   rw[hs]at h;dsimp only at h;cases ho:yY r.1 r.2.1 r.2.2 ((t.1[2]?.getD 0:Nat):Int)with
   | none=>rw[ho]at h;cases h
   | some x=>
    rw[ho]at h;dsimp only at h;cases hq:mE l t.2.1 t.2.2 (oV r.1 r.2.1 r.2.2 x)with
    | none=>rw[hq]at h;cases h
    | some p=>
     rw[hq]at h;injection h with h
     subst h;have:=ME l _ _ _ p hq;simp[this]
theorem adr(bs:List Nat)(most:Int)(t:List Stp×Nat)(h:su bs most=some t):0<t.2/\t.2<=bs.length/\t.1.length<=1000:=by
 unfold su at h;split at h
 ·next hc=>
  have hk:(au bs).2<=bs.length:=(gK bs _ _ hc.1 rfl).2.2;generalize (au bs).1=n at *;generalize (au bs).2=k at *;split at h
  ·injection h with h
   subst h;exact⟨hc.1,hk,Nat.zero_le _⟩
  ·next hn=>
   cases hs:gH 3 (bs.drop k) n with
   | none=>rw[hs]at h;cases h
   | some p=>
    rw[hs]at h;dsimp only at h;cases hx:rQ ((bs.drop k).drop p.2)with
    | none=>rw[hx]at h;cases h
    | some q=>
     rw[hx]at h;dsimp only at h;cases hl:kN p.1 n q.1 with
     | none=>rw[hl]at h;cases h
     | some l=>
      rw[hl]at h;injection h with h
      subst h;have h1:=JY n 3 _ p hs;have h2:=(adw _ q hx).2.1;rw[List.length_drop]at h1 h2;rw[List.length_drop]at h2;have h3:l.length=n:=by
       unfold kN aeD at hl;split at hl
       ·cases hl
       ·next z hz=>
        have h4:=ME _ _ _ _ _ hz;split at hl
        ·injection hl with hl
         rw[<-hl,h4];simp[lH]
        ·cases hl
      refine⟨?_,?_,?_⟩
      ·show 0<k+p.2+q.2;omega
      ·show k+p.2+q.2<=bs.length;omega
      ·show l.length<=1000;omega
 ·cases h
theorem Wl(p u:List Nat)(m:Int)(r:List Stp×Nat)(h:su p m=some r):su (p++u) m=some r:=by
 unfold su at h ⊢;split at h
 ·next hc=>
  obtain⟨e,hk⟩:=eT p u hc.1;rw[e,if_pos hc,nO p u _ hk];generalize (au p).1=n at *;generalize (au p).2=k at *;split at h
  ·next hn=>rw[if_pos hn];exact h
  ·next hn=>
   rw[if_neg hn];cases hs:gH 3 (p.drop k) n with
   | none=>rw[hs]at h;cases h
   | some q=>
    have hl:=JY n 3 _ q hs;rw[hs]at h;rw[MG u n 3 _ q hs];dsimp only at h ⊢;rw[nO _ u q.2 hl];cases hx:rQ ((p.drop k).drop q.2)with
    | none=>rw[hx]at h;cases h
    | some x=>
     rw[hx]at h;rw[(Kn _ u x hx).1];exact h
 ·cases h
theorem agl(S:List Nat)(m:Int)(l:List Stp)(h:su S m=some (l,S.length))(j:Nat)(hj:j<S.length):su (S.take j) m=none:=by
 cases hc:su (S.take j) m with
 | none=>rfl
 | some r=>
  have h1:=Wl (S.take j) (S.drop j) m r hc;have h2:=(adr (S.take j) m r hc).2.1;rw[List.take_append_drop,h]at h1;injection h1 with h1
  subst h1;rw[List.length_take]at h2;dsimp only at h2;omega
theorem abp(S:List Nat)(m n:Int)(hmn:m<=n)(r:List Stp×Nat)(h:su S m=some r):su S n=some r:=by
 unfold su at h ⊢;split at h
 ·next hc=>rw[if_pos ⟨hc.1,Int.le_trans hc.2.1 hmn,hc.2.2⟩];exact h
 ·cases h
theorem UL(c V:Nat)(h:c<28):QF c V<=65535:=by
 unfold QF;split
 ·omega
 ·have h1:2^(c-12)<=2^15:=Nat.pow_le_pow_right (by omega) (by omega);have h2:V%2^(c-12)<2^(c-12):=Nat.mod_lt _ (Nat.pow_pos (by omega));omega
theorem Al:∀(cs:List Nat) (V L:Nat) (t:List Nat×Nat×Nat),(∀x∈cs,x<28)->pK cs V L=some t->∀v∈t.1,v<=65535
 | [],V,L,t,_,h=>by
  injection h with h
  subst h;intro v hv;cases hv
 | c :: cs,V,L,t,hc,h=>by
  unfold pK at h;split at h
  ·cases hq:pK cs (V/2^exK c) (L-exK c)with
   | none=>rw[hq]at h;cases h
   | some q=>
    rw[hq]at h;injection h with h
    subst h;intro v hv;rcases List.mem_cons.1 hv with rfl | hv
    ·exact UL c V (hc c List.mem_cons_self)
    ·exact Al cs _ _ q (fun x hx=>hc x (List.mem_cons_of_mem _ hx)) hq v hv
  ·cases h
theorem sQ(l:List Nat)(i:Nat)(h:∀v∈l,v<=65535):l[i]?.getD 0<=65535:=by
 rcases Nat.lt_or_ge i l.length with h1 | h1
 ·rw[List.getElem?_eq_getElem h1];exact h _ (List.getElem_mem h1)
 ·rw[List.getElem?_eq_none h1];exact Nat.zero_le _
theorem AV:∀(l:List (List Nat)) (V L:Nat) (r:Int×Int×Int) (q:List Stp×Nat×Nat),(∀c∈l,∀x∈c,x<28)->r.1<=65535->r.2.1<=65535->r.2.2<=65535->mE l V L r=some q->∀s∈q.1,s.1<=65538/\s.2.1<=65538/\s.2.2<=65538
 | [],V,L,r,q,_,_,_,_,h=>by
  injection h with h
  subst h;intro s hs;cases hs
 | c :: l,V,L,r,q,hc,h0,h1,h2,h=>by
  unfold mE at h;cases hs:pK c V L with
  | none=>rw[hs]at h;cases h
  | some t=>
   have ht:=Al c V L t (hc c List.mem_cons_self) hs;rw[hs]at h;dsimp only at h;cases ho:yY r.1 r.2.1 r.2.2 ((t.1[2]?.getD 0:Nat):Int)with
   | none=>rw[ho]at h;cases h
   | some x=>
    have hx:x<=65535:=by
     have h3:=sQ t.1 2 ht;unfold yY at ho;split at ho
     ·cases ho
     ·split at ho
      ·injection ho with ho
       rw[<-ho];unfold yZ;split
       ·omega
       ·split
        ·exact h0
        ·split
         ·exact h1
         ·exact h2
      ·cases ho
    rw[ho]at h;dsimp only at h;cases hq:mE l t.2.1 t.2.2 (oV r.1 r.2.1 r.2.2 x)with
    | none=>rw[hq]at h;cases h
    | some p=>
     have hb:(oV r.1 r.2.1 r.2.2 x).1<=65535/\(oV r.1 r.2.1 r.2.2 x).2.1<=65535/\(oV r.1 r.2.1 r.2.2 x).2.2<=65535:=by
      unfold oV;split
      ·exact⟨hx,h1,h2⟩
      ·split
       ·exact⟨hx,h0,h2⟩
       ·exact⟨hx,h0,h1⟩
     rw[hq]at h;injection h with h
     subst h;intro s hs;rcases List.mem_cons.1 hs with rfl | hs
     ·have h3:=sQ t.1 0 ht;have h4:=sQ t.1 1 ht;refine⟨?_,?_,?_⟩
      ·dsimp only;omega
      ·dsimp only;omega
      ·dsimp only;omega
     ·exact AV l _ _ _ p (fun c hc'=>hc c (List.mem_cons_of_mem _ hc')) hb.1 hb.2.1 hb.2.2 hq s hs
theorem AX(n:Nat):∀(k:Nat) (bs:List Nat) (r:List (List Nat)×Nat),gH k bs n=some r->∀c∈r.1,∀x∈c,x<28
 | 0,bs,r,h=>by
  injection h with h
  subst h;intro c hc;cases hc
 | k+1,bs,r,h=>by
  unfold gH at h;cases hs:FL bs n with
  | none=>rw[hs]at h;cases h
  | some q=>
   rw[hs]at h;dsimp only at h;cases hq:gH k (bs.drop q.2) n with
   | none=>rw[hq]at h;cases h
   | some p=>
    rw[hq]at h;injection h with h
    subst h;intro c hc;rcases List.mem_cons.1 hc with rfl | hc
    ·unfold FL at hs;split at hs
     ·cases hs
     ·split at hs
      ·next h28=>injection hs with hs;subst hs;exact h28
      ·cases hs
    ·exact AX n k _ p hq c hc
theorem Wn(bs:List Nat)(m:Int)(r:List Stp×Nat)(h:su bs m=some r):∀s∈r.1,s.1<=65538/\s.2.1<=65538/\s.2.2<=65538:=by
 unfold su at h;split at h
 ·split at h
  ·injection h with h
   subst h;intro s hs;cases hs
  ·cases hs:gH 3 (bs.drop (au bs).2) (au bs).1 with
   | none=>rw[hs]at h;cases h
   | some p=>
    have h28:=AX _ 3 _ p hs;rw[hs]at h;dsimp only at h;split at h
    ·cases h
    ·next q _=>
     cases hl:kN p.1 (au bs).1 q.1 with
     | none=>rw[hl]at h;cases h
     | some l=>
      rw[hl]at h;injection h with h
      subst h;unfold kN aeD at hl;split at hl
      ·cases hl
      ·next z hz=>
       have h4:=AV _ _ _ _ z (fun c hc x hx=>by
        unfold lH at hc;obtain⟨i,_,rfl⟩:=List.mem_map.1 hc;unfold atD at hx;obtain⟨l,hl,rfl⟩:=List.mem_map.1 hx;rcases Nat.lt_or_ge i l.length with h1 | h1
        ·rw[List.getElem?_eq_getElem h1];exact h28 l hl _ (List.getElem_mem h1)
        ·rw[List.getElem?_eq_none h1];exact Nat.zero_lt_succ _) (by decide) (by decide) (by decide) hz
       split at hl
       ·injection hl with hl
        rw[<-hl];exact h4
       ·cases hl
 ·cases h
end Bm
end Go.Proofs.YtaebnkeddcbmkaaGreat
namespace Go.Proofs.YtaebnkeddcbmkaaGreat.Bm
abbrev HB:=Nat×Nat×Nat×Nat×Nat
def CY(r:List Nat):Option (Nat×Nat×Nat×Nat):=
 if 0<(au r).2/\(au r).1<=1073741824 then
  (if 0<(au (r.drop (au r).2)).2/\(au (r.drop (au r).2)).1<=1099511627776/\(au r).2+(au (r.drop (au r).2)).2+8<=r.length then
   some ((au r).1,(au (r.drop (au r).2)).1,aW ((r.drop ((au r).2+(au (r.drop (au r).2)).2)).take 8),(au r).2+(au (r.drop (au r).2)).2+8)
  else none)
 else none
def pF(bs:List Nat):Option HB:=
 match bs with
 | []=>none
 | k :: r=>if 2<k then none else(CY r).map fun t=>(k,t.1,t.2.1,t.2.2.1,1+t.2.2.2)
def iC(D:List Nat)(k n:Nat)(bs:List Nat):Option (List Nat):=
 if k=0 then(if bs.length=n then some bs else none)
 else if k=1 then(if bs.length=1 then some (List.replicate n (bs[0]?.getD 0))else none)
 else match vk bs (n:Int)with
  | none=>none
  | some t=>match su (bs.drop t.2) (n:Int)with
   | none=>none
   | some q=>if t.2+q.2=bs.length/\(vC D t.1 (q.1.map sw) n).2=0/\(vC D t.1 (q.1.map sw) n).1.length=n then some (vC D t.1 (q.1.map sw) n).1 else none
def zk(D bs:List Nat)(lim:Int):List Nat×Nat:=
 match pF bs with
 | none=>([],3)
 | some h=>if lim<(h.2.2.1:Int)\/512<h.2.2.1 then([],5)else
  match iC D h.1 h.2.2.1 (bs.drop h.2.2.2.2)with
  | none=>([],3)
  | some x=>if sumOf x=h.2.2.2.1 then(x,0)else([],4)
def hdB(k ep:Nat)(X:List Nat):List Nat:=k :: (grp ep++(grp X.length++bytesOf (sumOf X) 8))
structure vT(D X:List Nat)(k:Nat)(T:List Nat):Prop where
 kind:k<=2
 lt:∀x∈T,x<256
 len:T.length<=X.length
 yes:iC D k X.length T=some X
 cut:∀j,j<T.length->iC D k X.length (T.take j)=none
 more:∀x,iC D k X.length (T++[x])=none
theorem jg(k ep:Nat)(X:List Nat):(hdB k ep X).length=1+(grp ep).length+(grp X.length).length+8:=by
 rw[hdB,List.length_cons,List.length_append,List.length_append,bytesOf_length];omega
theorem alG(k ep:Nat)(X:List Nat)(hep:ep<=1073741824)(hX:X.length<=512):(hdB k ep X).length<=16:=by
 have h1:=(BU ep (by omega) 5 (by decide)).2 (by omega);have h2:=(BU X.length (by omega) 2 (by decide)).2 (by omega);rw[jg];omega
theorem abJ(ep n s:Nat)(T:List Nat)(hep:ep<=1073741824)(hn:n<=1099511627776)(hs:s<2^64):CY (grp ep++(grp n++bytesOf s 8)++T)=some (ep,n,s,(grp ep).length+(grp n).length+8):=by
 have h1:au (grp ep++(grp n++bytesOf s 8)++T)=(ep,(grp ep).length):=by
  rw[List.append_assoc];exact fK ep _ (by omega)
 have h2:(grp ep++(grp n++bytesOf s 8)++T).drop (grp ep).length=grp n++(bytesOf s 8++T):=by
  rw[List.append_assoc,List.drop_left,List.append_assoc]
 have h3:au (grp n++(bytesOf s 8++T))=(n,(grp n).length):=fK n _ (by omega);have h4:=pE ep (by omega);have h5:=pE n (by omega);unfold CY;rw[h1];dsimp only;rw[h2,h3];dsimp only;rw[if_pos ⟨h4,hep⟩,if_pos ⟨h5,hn,by simp only[List.length_append,bytesOf_length];omega⟩,<-List.drop_drop,h2,List.drop_left,List.take_left' (bytesOf_length s 8),iI s 8,Nat.mod_eq_of_lt (by omega)]
theorem abI(p u:List Nat)(t:Nat×Nat×Nat×Nat)(h:CY p=some t):CY (p++u)=some t/\t.2.2.2<=p.length:=by
 unfold CY at h ⊢;split at h
 ·next h0=>
  obtain⟨e0,l0⟩:=eT p u h0.1;rw[e0,if_pos h0,nO p u _ l0];split at h
  ·next h1=>
   obtain⟨e1,l1⟩:=eT (p.drop (au p).2) u h1.1;rw[e1,if_pos ⟨h1.1,h1.2.1,by rw[List.length_append];omega⟩,<-h];generalize au (p.drop (au p).2)=z at *;generalize au p=y at *;injection h with h
   subst h;refine⟨?_,h1.2.2⟩;rw[nO p u _ (by omega),List.take_append_of_le_length (by rw[List.length_drop];omega)]
  ·cases h
 ·cases h
theorem gM(k ep:Nat)(X T:List Nat)(hk:k<=2)(hep:ep<=1073741824)(hX:X.length<=512):pF (hdB k ep X++T)=some (k,ep,X.length,sumOf X,(hdB k ep X).length):=by
 rw[jg];unfold hdB;rw[List.cons_append];unfold pF;dsimp only;rw[if_neg (by omega),abJ ep X.length (sumOf X) T hep (by omega) (MH X),Option.map_some];dsimp only;rw[show 1+((grp ep).length+(grp X.length).length+8)=1+(grp ep).length+(grp X.length).length+8 by omega]
theorem Zt(k ep:Nat)(X:List Nat)(hk:k<=2)(hep:ep<=1073741824)(hX:X.length<=512)(j:Nat)(hj:j<(hdB k ep X).length):pF ((hdB k ep X).take j)=none:=by
 have hy:=gM k ep X [] hk hep hX;rw[List.append_nil,jg]at hy;rw[jg]at hj;unfold hdB at hy ⊢;cases j with
 | zero=>rfl
 | succ j=>
  rw[List.take_succ_cons];unfold pF at hy ⊢;dsimp only at hy ⊢;rw[if_neg (by omega)]at hy ⊢;cases ht:CY ((grp ep++(grp X.length++bytesOf (sumOf X) 8)).take j)with
  | none=>rfl
  | some t=>
   obtain⟨e,l⟩:=abI _ ((grp ep++(grp X.length++bytesOf (sumOf X) 8)).drop j) t ht;rw[List.take_append_drop]at e;rw[e]at hy;injection hy with hy
   rw[List.length_take]at l;have h1:1+t.2.2.2=1+(grp ep).length+(grp X.length).length+8:=congrArg (fun z:HB=>z.2.2.2.2) hy;omega
theorem aei{D X T:List Nat}{k ep:Nat}(h:vT D X k T)(hep:ep<=1073741824)(hX:X.length<=512)(lim:Int)(hl:(X.length:Int)<=lim):zk D (hdB k ep X++T) lim=(X,0):=by
 unfold zk;rw[gM k ep X T h.kind hep hX];dsimp only;rw[if_neg (by omega),List.drop_left,h.yes];dsimp only;rw[if_pos rfl]
theorem aeh{D X T:List Nat}{k ep:Nat}(hk:k<=2)(hep:ep<=1073741824)(hX:X.length<=512)(lim:Int)(hl:lim<(X.length:Int)):zk D (hdB k ep X++T) lim=([],5):=by
 unfold zk;rw[gM k ep X T hk hep hX];dsimp only;rw[if_pos (.inl hl)]
theorem aeg{D X T:List Nat}{k ep:Nat}(h:vT D X k T)(hep:ep<=1073741824)(hX:X.length<=512)(j:Nat)(hj:j<(hdB k ep X++T).length):zk D ((hdB k ep X++T).take j) (X.length:Int)=([],3):=by
 rw[List.length_append]at hj;unfold zk;rcases Nat.lt_or_ge j (hdB k ep X).length with h1 | h1
 ·rw[List.take_append_of_le_length (Nat.le_of_lt h1),Zt k ep X h.kind hep hX j h1]
 ·rw[List.take_append,List.take_of_length_le h1,gM k ep X _ h.kind hep hX];dsimp only;rw[if_neg (by omega),List.drop_left,h.cut (j-(hdB k ep X).length) (by omega)]
theorem Yy{D X T:List Nat}{k ep:Nat}(h:vT D X k T)(hep:ep<=1073741824)(hX:X.length<=512)(x:Nat):zk D (hdB k ep X++T++[x]) (X.length:Int)=([],3):=by
 unfold zk;rw[List.append_assoc,gM k ep X _ h.kind hep hX];dsimp only;rw[if_neg (by omega),List.drop_left,h.more x]
theorem RN{D X T Y:List Nat}{k ep:Nat}(hk:k<=2)(hep:ep<=1073741824)(hX:X.length<=512)(lim:Int)(h:zk D (hdB k ep X++T) lim=(Y,0)):sumOf Y=sumOf X:=by
 unfold zk at h;rw[gM k ep X T hk hep hX]at h;dsimp only at h;split at h
 ·cases h
 ·split at h
  ·cases h
  ·next x _=>
   split at h
   ·next hs=>
    have h1:x=Y:=congrArg Prod.fst h;rw[<-h1];exact hs
   ·cases h
theorem aef{D bs X:List Nat}{k n:Nat}(h:iC D k n bs=some X):X.length=n:=by
 unfold iC at h;split at h
 ·split at h
  ·injection h with h;subst h;assumption
  ·cases h
 ·split at h
  ·split at h
   ·injection h with h;subst h;rw[List.length_replicate]
   ·cases h
  ·split at h
   ·cases h
   ·split at h
    ·cases h
    ·split at h
     ·next hc=>injection h with h;rw[<-h];exact hc.2.2
     ·cases h
theorem RF(D X:List Nat)(hX:∀x∈X,x<256):vT D X 0 X:=by
 refine⟨by omega,hX,Nat.le_refl _,?_,fun j hj=>?_,fun x=>?_⟩
 ·unfold iC;rw[if_pos rfl,if_pos rfl]
 ·unfold iC;rw[if_pos rfl,if_neg (by rw[List.length_take];omega)]
 ·unfold iC;rw[if_pos rfl,if_neg (by rw[List.length_append,List.length_singleton];omega)]
theorem RD(D X:List Nat)(c:Nat)(hc:c<256)(h0:0<X.length)(h:X=List.replicate X.length c):vT D X 1 [c]:=by
 refine⟨by omega,fun x hx=>by rw[List.mem_singleton.1 hx];exact hc,h0,?_,fun j hj=>?_,fun x=>?_⟩
 ·show some (List.replicate X.length c)=some X;exact congrArg some h.symm
 ·rw[List.length_singleton]at hj;obtain rfl:j=0:=by omega
  rfl
 ·rfl
theorem RG(D X E S:List Nat)(l:List Stp)(L:List Nat)(hE:vk E (X.length:Int)=some (L,E.length))(hS:su S (X.length:Int)=some (l,S.length))(h0:vC D L (l.map sw) X.length=(X,0))
  (hE2:∀x∈E,x<256) (hS2:∀x∈S,x<256) (hlen:(E++S).length<X.length):vT D X 2 (E++S):=by
 have hb:∀u,iC D 2 X.length (E++u)=match su u (X.length:Int)with
   | none=>none
   | some q=>if E.length+q.2=E.length+u.length/\(vC D L (q.1.map sw) X.length).2=0/\(vC D L (q.1.map sw) X.length).1.length=X.length then some (vC D L (q.1.map sw) X.length).1 else none:=fun u=>by
  unfold iC;rw[if_neg (by decide),if_neg (by decide),(pq E u _ _ hE).1];dsimp only;rw[List.drop_left,List.length_append]
 refine⟨by omega,fun x hx=>(List.mem_append.1 hx).elim (hE2 x) (hS2 x),Nat.le_of_lt hlen,?_,fun j hj=>?_,fun x=>?_⟩
 ·rw[hb,hS];dsimp only;rw[h0,if_pos ⟨rfl,rfl,rfl⟩]
 ·rcases Nat.lt_or_ge j E.length with h1 | h1
  ·rw[List.take_append_of_le_length (Nat.le_of_lt h1)];unfold iC;rw[if_neg (by decide),if_neg (by decide),YO E _ _ hE j h1]
  ·rw[List.take_append,List.take_of_length_le h1,hb];rw[List.length_append]at hj;rw[agl S _ l hS (j-E.length) (by omega)]
 ·rw[List.append_assoc,hb,Wl S [x] _ _ hS];dsimp only;rw[if_neg (by rw[List.length_append,List.length_singleton];omega)]
end Go.Proofs.YtaebnkeddcbmkaaGreat.Bm
namespace Go.Proofs.YtaebnkeddcbmkaaGreat
theorem aev(bs:List Nat)(m:Int)(t:List Nat×Nat)(hlt:∀x∈bs,x<256)(h:vk bs m=some t):(t.1.length:Int)<=m/\0<t.2/\t.2<=bs.length:=by
 have hle:=(pq bs [] m t h).2;cases bs with
 | nil=>cases h
 | cons k r=>
  unfold vk at h;dsimp only at h;split at h
  ·next hc=>
   have hrt:∀x∈r.drop (au r).2,x<256:=fun x hx=>hlt x (List.mem_cons_of_mem _ (List.mem_of_mem_drop hx))
   cases hb:eG k (au r).1 (r.drop (au r).2)with
   | none=>rw[hb]at h;cases h
   | some q=>
    rw[hb]at h;injection h with h
    have hq:q.1.length=(au r).1:=by
     unfold eG at hb;generalize (au r).1=n at *;generalize r.drop (au r).2=u at *;split at hb
     ·split at hb
      ·next hn=>injection hb with hb;rw[<-hb];dsimp only;rw[List.length_take];omega
      ·cases hb
     ·split at hb
      ·split at hb
       ·injection hb with hb;rw[<-hb];simp
       ·cases hb
      ·split at hb
       ·cases hr:jl u with
        | none=>rw[hr]at hb;cases hb
        | some p=>
         rw[hr]at hb;dsimp only at hb;cases hcb:oZ p.1 (u.drop p.2) n with
         | none=>rw[hcb]at hb;cases hb
         | some q2=>
          rw[hcb]at hb;injection hb with hb
          unfold oZ at hcb;split at hcb
          ·cases hd:NI p.1 (((u.drop p.2).drop (au (u.drop p.2)).2).take (au (u.drop p.2)).1) n with
           | none=>rw[hd]at hcb;cases hcb
           | some d=>
            rw[hd]at hcb;injection hcb with hcb
            have:=(BN p.1 _ d n (fun x hx=>hrt x (List.mem_of_mem_drop (List.mem_of_mem_drop (List.mem_of_mem_take hx)))) hd).2.1;rw[<-hb,<-hcb];exact this
          ·cases hcb
       ·cases hb
    subst h;refine⟨?_,?_,hle⟩
    ·show((q.1.length:Nat):Int)<=m;rw[hq];exact hc.2.1
    ·show 0<1+(au r).2+q.2;omega
  ·cases h
theorem Sz(bs:List Nat)(m:Int)(t:List Nat×Nat)(hlt:∀x∈bs,x<256)(h:vk bs m=some t):∀x∈t.1,x<256:=by
 cases bs with
 | nil=>cases h
 | cons k r=>
  unfold vk at h;dsimp only at h;split at h
  ·have hrt:∀x∈r.drop (au r).2,x<256:=fun x hx=>hlt x (List.mem_cons_of_mem _ (List.mem_of_mem_drop hx))
   generalize (au r).1=n at *;generalize r.drop (au r).2=u at *;cases hb:eG k n u with
   | none=>rw[hb]at h;cases h
   | some q=>
    rw[hb]at h;injection h with h
    subst h;show ∀x∈q.1,x<256;unfold eG at hb;split at hb
    ·split at hb
     ·injection hb with hb;rw[<-hb];exact fun x hx=>hrt x (List.mem_of_mem_take hx)
     ·cases hb
    ·split at hb
     ·split at hb
      ·next h0=>
       injection hb with hb
       rw[<-hb];intro x hx;rw[(List.mem_replicate.1 hx).2,List.getElem?_eq_getElem h0];exact hrt _ (List.getElem_mem h0)
      ·cases hb
     ·split at hb
      ·cases hr:jl u with
       | none=>rw[hr]at hb;cases hb
       | some p=>
        have hW:=(xY u p hr).1;rw[hr]at hb;dsimp only at hb;cases hcb:oZ p.1 (u.drop p.2) n with
        | none=>rw[hcb]at hb;cases hb
        | some q2=>
         rw[hcb]at hb;injection hb with hb
         unfold oZ at hcb;split at hcb
         ·cases hd:NI p.1 (((u.drop p.2).drop (au (u.drop p.2)).2).take (au (u.drop p.2)).1) n with
          | none=>rw[hd]at hcb;cases hcb
          | some d=>
           rw[hd]at hcb;injection hcb with hcb
           have:=(BN p.1 _ d n (fun x hx=>hrt x (List.mem_of_mem_drop (List.mem_of_mem_drop (List.mem_of_mem_take hx)))) hd).2.2;rw[<-hb,<-hcb];exact fun x hx=>Nat.lt_of_lt_of_le (this x hx) hW
         ·cases hcb
      ·cases hb
  ·cases h
open Go.RowKit
def ajP:Option (List Nat)->Value
 | none=>.tuple #[.string (strOf []),.bool false]
 | some s=>.tuple #[.string (strOf s),.bool true]
def ahu(w':World)(e:Ending):Option (List Nat)->Prop
 | none=>∃A c,e=.returned (.tuple #[.slice A 0 c,.bool false])
 | some bs=>∃A c,e=.returned (.tuple #[.slice A bs.length c,.bool true])/\bs.length<=c/\Reads w' A (u8s bs)
end Go.Proofs.YtaebnkeddcbmkaaGreat
namespace Go.Proofs.YtaebnkeddcbmkaaGreat.Bm
theorem Ec(ls:List Nat)(i:Nat)(h:i<ls.length):(iZ ls)[i]'(by simpa [iZ]using h)=eX ls i:=by simp[iZ]
theorem jL(ls:List Nat):(iZ ls).length=ls.length:=by simp[iZ]
def nP(F:List (Int×Int))(a b:Nat):Int:=if b=0 then(F[a]?.getD (0,0)).1 else(F[a]?.getD (0,0)).2
def Mx(F:List (Int×Int))(a b:Nat)(z:Int):List (Int×Int):=F.set a (if b=0 then(z,(F[a]?.getD (0,0)).2)else((F[a]?.getD (0,0)).1,z))
theorem bZ(F:List (Int×Int))(a b:Nat)(z:Int):(Mx F a b z).length=F.length:=by simp[Mx]
theorem BP(F:List (Int×Int))(a b:Nat)(z:Int)(ha:a<F.length):nP (Mx F a b z) a b=z:=by
 unfold nP Mx;rw[List.getElem?_set_self ha,Option.getD_some];split<;>rfl
theorem Eo(F:List (Int×Int))(a b a' b':Nat)(z:Int)(hb:b<2)(hb':b'<2)(h:¬(a'=a/\b'=b)):nP (Mx F a b z) a' b'=nP F a' b':=by
 unfold nP Mx;by_cases ha:a'=a
 ·subst ha;have hne:b'≠b:=fun e=>h ⟨rfl,e⟩
  rcases Nat.lt_or_ge a' F.length with hl | hl
  ·rw[List.getElem?_set_self hl,Option.getD_some];by_cases h0:b=0
   ·rw[if_pos h0,if_neg (show ¬b'=0 by omega),if_neg (show ¬b'=0 by omega)]
   ·rw[if_neg h0,if_pos (show b'=0 by omega),if_pos (show b'=0 by omega)]
  ·rw[List.set_eq_of_length_le hl]
 ·rw[List.getElem?_set_ne (fun e=>ha e.symm)]
theorem SK(F:List (Int×Int))(a b:Nat)(t:Int×Int)(ha:a<F.length):nP (F++[t]) a b=nP F a b:=by
 unfold nP;rw[List.getElem?_append_left ha]
theorem aeB(F:List (Int×Int))(b:Nat):nP (F++[(0,0)]) F.length b=0:=by
 unfold nP;rw[List.getElem?_append_right (Nat.le_refl _),Nat.sub_self];simp
def akx(ls:List Nat)(q:Nat)(P:List (List Nat))(z:Int)(p:List Nat):Prop:=
 (0<z->P[z.toNat]?=some p)/\(z=0->p ∉ P/\∀k,k<q->0<ls[k]?.getD 0->aY ls k≠p)/\(z<0->∃k:Nat,k<q/\z=-1-(k:Int)/\0<ls[k]?.getD 0/\aY ls k=p)
structure Tr(ls:List Nat)(q:Nat)(P:List (List Nat))(F:List (Int×Int)):Prop where
 len:F.length=P.length
 root:P[0]?=some []
 nodup:P.Nodup
 clo:∀p b,p++[b]∈P->p∈P
 pre:∀p∈P,p≠[]->∃k,k<=q/\0<ls[k]?.getD 0/\p <+: aY ls k/\p.length<ls[k]?.getD 0
 all:∀k,k<q->0<ls[k]?.getD 0->∀i,i<ls[k]?.getD 0->(aY ls k).take i∈P
 ent:∀a p,P[a]?=some p->∀b,b<2->akx ls q P (nP F a b) (p++[b])
theorem Tr.start(ls:List Nat):Tr ls 0 [[]] [(0,0)] where
 len:=rfl
 root:=rfl
 nodup:=by simp
 clo:=fun p b h=>by simp at h
 pre:=fun p hp h0=>by simp at hp;exact absurd hp h0
 all:=fun k hk=>by omega
 ent:=fun a p ha b hb=>by
  rcases a with _ | a
  ·simp at ha;subst ha;have e:nP [(0,0)] 0 b=0:=by unfold nP;simp
   rw[e];exact⟨by omega,fun _=>⟨by simp,fun k hk=>by omega⟩,by omega⟩
  ·simp at ha
theorem Tr.skip{ls:List Nat}{q:Nat}{P:List (List Nat)}{F:List (Int×Int)}(h:Tr ls q P F)(h0:ls[q]?.getD 0=0):Tr ls (q+1) P F where
 len:=h.len
 root:=h.root
 nodup:=h.nodup
 clo:=h.clo
 pre:=fun p hp hne=>by
  obtain⟨k,h1,h2⟩:=h.pre p hp hne;exact⟨k,by omega,h2⟩
 all:=fun k hk hk0=>by
  by_cases e:k=q
  ·subst e;omega
  ·exact h.all k (by omega) hk0
 ent:=fun a p ha b hb=>by
  obtain⟨h1,h2,h3⟩:=h.ent a p ha b hb;refine⟨h1,fun hz=>⟨(h2 hz).1,fun k hk hk0=>?_⟩,fun hz=>?_⟩
  ·by_cases e:k=q
   ·subst e;omega
   ·exact(h2 hz).2 k (by omega) hk0
  ·obtain⟨k,g1,g2⟩:=h3 hz;exact⟨k,by omega,g2⟩
theorem rJ(l:List Nat)(j:Nat)(h:j<l.length):l.take (j+1)=l.take j++[l[j]]:=List.take_succ_eq_append_getElem h
theorem LG{P:List (List Nat)}{a:Nat}{p:List Nat}(h:P[a]?=some p):p∈P:=List.mem_of_getElem? h
theorem Gu{P:List (List Nat)}{a:Nat}{p:List Nat}(h:P[a]?=some p):a<P.length:=(List.getElem?_eq_some_iff.1 h).1
theorem at_one{P:List (List Nat)}(hn:P.Nodup){a a':Nat}{p:List Nat}(h:P[a]?=some p)(h':P[a']?=some p):a=a':=by
 have h1:=Gu h;exact(List.getElem?_inj h1 hn).1 (h.trans h'.symm)
theorem CP{p r:List Nat}{b c:Nat}(h:p++[b]=r++[c]):p=r/\b=c:=by
 have:=List.append_inj' h rfl;exact⟨this.1,by simpa using this.2⟩
section
variable {ls:List Nat} {q:Nat} {P:List (List Nat)} {F:List (Int×Int)}
theorem Tr.on(h:Tr ls q P F){a b:Nat}{p:List Nat}(ha:P[a]?=some p)(hb:b<2)(hz:0<nP F a b):P[(nP F a b).toNat]?=some (p++[b]):=(h.ent a p ha b hb).1 hz
theorem Tr.pos(h:Tr ls q P F)(hW:bC ls)(hq:q<ls.length){a j:Nat}(hj:j<(aY ls q).length)(ha:P[a]?=some ((aY ls q).take j)):0<=nP F a (aY ls q)[j]:=by
 have hb:=kW ls q _ (List.getElem_mem hj);rcases Int.lt_or_le (nP F a (aY ls q)[j]) 0 with hz | hz
 ·exfalso
  obtain⟨k,h1,_,h3,h4⟩:=(h.ent a _ ha _ hb).2.2 hz;rw[<-rJ _ j hj]at h4;have hl:=aQ ls q;have:=tN ls k q (by omega) hq hW h3 (by omega) (aY ls q) (by rw[h4];exact List.take_prefix _ _) (List.prefix_refl _);omega
 ·exact hz
theorem Tr.grow(h:Tr ls q P F){a j:Nat}(hj:j+1<(aY ls q).length)(ha:P[a]?=some ((aY ls q).take j))(hz:nP F a ((aY ls q)[j]'(by omega))=0) :
  Tr ls q (P++[(aY ls q).take (j+1)]) (Mx F a ((aY ls q)[j]'(by omega)) (P.length:Int)++[(0,0)]):=by
 have hb:=kW ls q _ (List.getElem_mem (show j<(aY ls q).length by omega));have hnx:=rJ (aY ls q) j (by omega);have hl:=aQ ls q;obtain⟨hnp,hnc⟩:=(h.ent a _ ha _ hb).2.1 hz;rw[<-hnx]at hnp hnc;have hal:=Gu ha;have hpl:((aY ls q).take (j+1)).length=j+1:=by rw[List.length_take];omega
 have hap:=LG ha;generalize (aY ls q)[j]'(by omega)=bb at *;generalize hp:(aY ls q).take (j+1)=p at *;have hpp:p <+: aY ls q:=by rw[<-hp];exact List.take_prefix _ _
 generalize hr:(aY ls q).take j=r at *;have hP0:0<P.length:=by omega
 refine⟨by rw[List.length_append,List.length_append,bZ,h.len];rfl,by rw[List.getElem?_append_left hP0];exact h.root,?_,?_,?_,?_,?_⟩
 ·rw[List.nodup_append];exact⟨h.nodup,by simp,fun x hx y hy=>by simp at hy;subst hy;exact fun e=>hnp (e▸hx)⟩
 ·intro p' b' hm;rcases List.mem_append.1 hm with hm | hm
  ·exact List.mem_append_left _ (h.clo p' b' hm)
  ·have e:=List.mem_singleton.1 hm;rw[hnx]at e;rw[(CP e).1];exact List.mem_append_left _ hap
 ·intro p' hm hne;rcases List.mem_append.1 hm with hm | hm
  ·exact h.pre p' hm hne
  ·have e:=List.mem_singleton.1 hm;rw[e];exact⟨q,Nat.le_refl _,by omega,hpp,by omega⟩
 ·intro k hk hk0 i hi;exact List.mem_append_left _ (h.all k hk hk0 i hi)
 ·intro a' p' ha' b' hb';rcases Nat.lt_or_ge a' P.length with hl' | hl'
  ·rw[List.getElem?_append_left hl']at ha';rw[SK _ _ _ _ (by rw[bZ,h.len];exact hl')];by_cases he:a'=a/\b'=bb
   ·obtain⟨e1,e2⟩:=he;subst e1 e2;rw[BP _ _ _ _ (by rw[h.len];exact hl')];have e:p'=r:=by rw[ha]at ha';injection ha' with ha';exact ha'.symm
    refine⟨fun _=>?_,fun e=>by omega,fun e=>by omega⟩;rw[Int.toNat_natCast,List.getElem?_append_right (Nat.le_refl _),Nat.sub_self,e,<-hnx];rfl
   ·rw[Eo _ _ _ _ _ _ hb hb' he];obtain⟨h1,h2,h3⟩:=h.ent a' p' ha' b' hb';refine⟨fun hz=>?_,fun hz=>⟨fun hm=>?_,(h2 hz).2⟩,h3⟩
    ·have:=h1 hz;rw[List.getElem?_append_left (Gu this)];exact this
    ·rcases List.mem_append.1 hm with hm | hm
     ·exact(h2 hz).1 hm
     ·have e:=List.mem_singleton.1 hm;rw[hnx]at e;obtain⟨e1,e2⟩:=CP e;rw[e1]at ha';exact he ⟨at_one h.nodup ha' ha,e2⟩
  ·have e:a'=P.length:=by
    have:=Gu ha';rw[List.length_append,List.length_singleton]at this;omega
   subst e;rw[List.getElem?_append_right (Nat.le_refl _),Nat.sub_self]at ha';have e:p=p':=by simpa using ha'
   subst e;have e2:nP (Mx F a bb (P.length:Int)++[(0,0)]) P.length b'=0:=by
    have:=aeB (Mx F a bb (P.length:Int)) b';rwa [bZ,h.len]at this
   rw[e2];refine⟨fun e=>by omega,fun _=>⟨fun hm=>?_,fun k hk hk0 e=>?_⟩,fun e=>by omega⟩
   ·rcases List.mem_append.1 hm with hm | hm
    ·exact hnp (h.clo p b' hm)
    ·have:=congrArg List.length (List.mem_singleton.1 hm);rw[List.length_append,List.length_singleton]at this;omega
   ·have hkl:=aQ ls k;have h1:=congrArg List.length e;rw[List.length_append,List.length_singleton]at h1;have h2:=h.all k hk hk0 p.length (by omega);rw[e,List.take_left]at h2;exact hnp h2
theorem Tr.leaf(h:Tr ls q P F){a n:Nat}(hn:n+1=(aY ls q).length)(ha:P[a]?=some ((aY ls q).take n))(hall:∀i,i<=n->(aY ls q).take i∈P) :
  Tr ls (q+1) P (Mx F a ((aY ls q)[n]'(by omega)) (-1-(q:Int))):=by
 have hb:=kW ls q _ (List.getElem_mem (show n<(aY ls q).length by omega));have hnx:=rJ (aY ls q) n (by omega);rw[hn,List.take_length]at hnx;have hl:=aQ ls q;have hal:=Gu ha;generalize (aY ls q)[n]'(by omega)=bb at *;refine⟨by rw[bZ,h.len],h.root,h.nodup,h.clo,?_,?_,?_⟩
 ·intro p hp hne;obtain⟨k,h1,h2⟩:=h.pre p hp hne;exact⟨k,by omega,h2⟩
 ·intro k hk hk0 i hi;by_cases e:k=q
  ·subst e;exact hall i (by omega)
  ·exact h.all k (by omega) hk0 i hi
 ·intro a' p' ha' b' hb';by_cases he:a'=a/\b'=bb
  ·obtain⟨e1,e2⟩:=he;subst e1 e2;rw[BP _ _ _ _ (by rw[h.len];exact hal)];have e:p'=(aY ls q).take n:=by rw[ha]at ha';injection ha' with ha';exact ha'.symm
   exact⟨fun e=>by omega,fun e=>by omega,fun _=>⟨q,by omega,rfl,by omega,by rw[e];exact hnx⟩⟩
  ·rw[Eo _ _ _ _ _ _ hb hb' he];obtain⟨h1,h2,h3⟩:=h.ent a' p' ha' b' hb';refine⟨h1,fun hz=>⟨(h2 hz).1,fun k hk hk0 e=>?_⟩,fun hz=>?_⟩
   ·by_cases ek:k=q
    ·subst ek;rw[hnx]at e;obtain⟨e1,e2⟩:=CP e;rw[<-e1]at ha';exact he ⟨at_one h.nodup ha' ha,e2.symm⟩
    ·exact(h2 hz).2 k (by omega) hk0 e
   ·obtain⟨k,g1,g2⟩:=h3 hz;exact⟨k,by omega,g2⟩
end
theorem LK(ls l:List Nat)(h:∀k,0<ls[k]?.getD 0->¬aY ls k <+: l):LH ls l=none:=by
 have:∀q,ES ls l q=none:=fun q=>by
  induction q with
  | zero=>rfl
  | succ q ih=>
   unfold ES;rw[if_neg (fun hc=>h q hc.1 hc.2),ih]
 exact this _
section
variable {ls:List Nat} {P:List (List Nat)} {F:List (Int×Int)}
theorem Tr.inner(h:Tr ls ls.length P F)(hW:bC ls){r:List Nat}(hr:r∈P)(k:Nat)(hk:0<ls[k]?.getD 0):¬aY ls k <+: r:=by
 intro hp;have hkl:=aQ ls k;by_cases he:r=[]
 ·subst he;have:=hp.length_le;rw[List.length_nil]at this;omega
 ·obtain⟨k',_,h2,h3,h4⟩:=h.pre r hr he;have:=tN ls k k' (ng ls k hk) (ng ls k' h2) hW hk h2 (aY ls k') (hp.trans h3) (List.prefix_refl _);subst this;have:=hp.length_le;omega
theorem Tr.aaX(h:Tr ls ls.length P F)(hW:bC ls){r:List Nat}(hr:r∈P):LH ls r=none:=LK ls r (fun k hk=>h.inner hW hr k hk)
theorem Tr.VG(h:Tr ls ls.length P F)(hW:bC ls){a b:Nat}{r:List Nat}(ha:P[a]?=some r)(hb:b<2)(hz:nP F a b<0)(rest:List Nat) :
  ∃k:Nat,k<ls.length/\nP F a b=-1-(k:Int)/\ls[k]?.getD 0=r.length+1/\LH ls (r++b :: rest)=some k:=by
 obtain⟨k,h1,h2,h3,h4⟩:=(h.ent a r ha b hb).2.2 hz;refine⟨k,h1,h2,by rw[<-aQ,h4,List.length_append];rfl,UC ls _ k hW h1 h3 ?_⟩;rw[h4];exact⟨rest,by simp⟩
theorem Tr.VH(h:Tr ls ls.length P F)(hW:bC ls){a b:Nat}{r:List Nat}(ha:P[a]?=some r)(hb:b<2)(hz:nP F a b=0)(rest:List Nat):LH ls (r++b :: rest)=none:=by
 obtain⟨h1,h2⟩:=(h.ent a r ha b hb).2.1 hz;refine LK ls _ (fun k hk hp=>?_);have hkl:=aQ ls k;rcases Nat.lt_or_ge r.length (ls[k]?.getD 0)with hl | hl
 ·have e:(aY ls k).take (r.length+1)=r++[b]:=by
   obtain⟨t,ht⟩:=hp;have:=congrArg (List.take (r.length+1)) ht;rw[List.take_append_of_le_length (by omega)]at this;rw[this,List.take_append,List.take_of_length_le (by omega)];simp
  by_cases he:ls[k]?.getD 0=r.length+1
  ·exact h2 k (ng ls k hk) hk (by rw[<-e,List.take_of_length_le (by omega)])
  ·exact h1 (by rw[<-e];exact h.all k (ng ls k hk) hk _ (by omega))
 ·exact h.inner hW (LG ha) k hk (List.prefix_of_prefix_length_le hp (List.prefix_append r (b :: rest)) (by omega))
end
def ins(x:Nat):List Nat->List Nat
 | []=>[x]
 | y :: l=>if x<=y then x :: y :: l else y :: ins x l
def mD:List Nat->List Nat
 | []=>[]
 | x :: l=>ins x (mD l)
theorem lX{x y:Nat}{l:List Nat}(h:x<=y):ins x (y :: l)=x :: y :: l:=by rw[ins,if_pos h]
theorem jN{x y:Nat}{l:List Nat}(h:¬x<=y):ins x (y :: l)=y :: ins x l:=by rw[ins,if_neg h]
theorem Lj(x y:Nat):∀l,ins x (ins y l)=ins y (ins x l)
 | []=>by
  show ins x [y]=ins y [x];by_cases h1:x<=y
  ·by_cases h2:y<=x
   ·obtain rfl:x=y:=by omega
    rfl
   ·rw[lX h1,jN h2];rfl
  ·rw[jN h1,lX (by omega)];rfl
 | z :: l=>by
  by_cases h1:x<=z<;>by_cases h2:y<=z
  ·rw[lX h1,lX h2];by_cases h3:x<=y
   ·by_cases h4:y<=x
    ·obtain rfl:x=y:=by omega
     rfl
    ·rw[lX h3,jN h4,lX h2]
   ·rw[jN h3,lX (show y<=x by omega),lX h1]
  ·rw[jN h2,lX h1,lX h1,jN (show ¬y<=x by omega),jN h2]
  ·rw[jN h1,lX h2,lX h2,jN (show ¬x<=y by omega),jN h1]
  ·rw[jN h1,jN h2,jN h1,jN h2,Lj x y l]
theorem qJ{a b:List Nat}(h:a.Perm b):mD a=mD b:=by
 induction h with
 | nil=>rfl
 | cons x _ ih=>simp only[mD,ih]
 | swap x y l=>simp only[mD];exact Lj y x (mD l)
 | trans _ _ ih1 ih2=>exact ih1.trans ih2
theorem Ll(x:Nat):∀l,(ins x l).Perm (x :: l)
 | []=>List.Perm.refl _
 | y :: l=>by
  unfold ins;split
  ·exact List.Perm.refl _
  ·exact((Ll x l).cons y).trans (List.Perm.swap x y l)
theorem sW:∀l,(mD l).Perm l
 | []=>List.Perm.refl _
 | x :: l=>(Ll x (mD l)).trans ((sW l).cons x)
theorem xu(x:Nat)(l:List Nat)(h:∀y∈l,x<=y):ins x l=x :: l:=by
 cases l with
 | nil=>rfl
 | cons y l=>unfold ins;rw[if_pos (h y List.mem_cons_self)]
def aeL:Nat->List Nat->Nat
 | 0,_=>0
 | f+1,a :: b :: l=>(a+b)+aeL f (ins (a+b) l)
 | _+1,_=>0
def oF(l:List Nat):Nat:=aeL l.length (mD l)
theorem kE{a b:List Nat}(h:a.Perm b):oF a=oF b:=by
 unfold oF;rw[qJ h,h.length_eq]
theorem NT(a b:Nat)(l:List Nat)(ha:a<=b)(hb:∀x∈l,b<=x):oF (a :: b :: l)=(a+b)+oF (l++[a+b]):=by
 have hs:mD (a :: b :: l)=a :: b :: mD l:=by
  simp only[mD];rw[xu b (mD l) (fun y hy=>hb y ((sW l).mem_iff.1 hy))];exact xu a _ (fun y hy=>by
   rcases List.mem_cons.1 hy with rfl | hy
   ·exact ha
   ·have:=hb y ((sW l).mem_iff.1 hy);omega)
 have h2:oF (l++[a+b])=aeL (l.length+1) (ins (a+b) (mD l)):=by
  rw[kE (List.perm_append_comm (l₁:=l) (l₂:=[a+b]))];rfl
 rw[h2];unfold oF;rw[hs];rfl
theorem Ti(l:List Nat)(h:l.length<=1):oF l=0:=by
 rcases l with _ | ⟨a,_ | ⟨b,l⟩⟩
 ·rfl
 ·rfl
 ·simp at h
end Go.Proofs.YtaebnkeddcbmkaaGreat.Bm
namespace Go.Proofs.YtaebnkeddcbmkaaGreat
open Go.RowKit
namespace Bm
def jk:List Nat->List Nat
 | []=>[]
 | c :: cs=>if 0<c then c :: jk cs else jk cs
def Yx(cs:List Nat):Nat:=if (jk cs).length=1 then(jk cs).sum else oF (jk cs)
def aiy(cs:List Nat):Nat:=if (jk cs).length=1 then(jk cs).sum else
 (jk cs).sum*wid ((jk cs).length-1)-((mD (jk cs)).reverse.take (2^wid ((jk cs).length-1)-(jk cs).length)).sum
structure Bj(cs ls:List Nat):Prop where
 len:ls.length=cs.length
 whole:bC ls
 just:∀i,i<cs.length->(0<ls[i]?.getD 0↔0<cs[i]?.getD 0)
 cost:NG cs ls<=max (aiy cs) (Yx cs)
theorem Bj.fit{cs ls:List Nat}(h:Bj cs ls):aky cs ls:=fun i hi h0=>(h.just i hi).2 h0
instance (cs ls:List Nat):Decidable (aky cs ls):=by unfold aky;exact inferInstance
end Bm
instance (l:List Int):Decidable (Bm.Right l):=by unfold Bm.Right;exact inferInstance
def Seg(w:World)(base g off cap:Nat)(l:List Nat):Prop:=base<=g/\cap<=maxLen/\∃pre post:List Value,pre.length=off/\l.length+post.length=cap/\Row w g 3 (pre++(aM l++post))
section
variable {w w':World} {base g off cap:Nat} {l:List Nat}
theorem Seg.lt(h:Seg w base g off cap l):g<w.heap.size:=by
 obtain⟨_,_,_,_,_,_,h⟩:=h;exact h.lt
theorem Seg.keep(h:Seg w base g off cap l)(hb:w'.heap[g]?=w.heap[g]?):Seg w' base g off cap l:=by
 obtain⟨h1,h2,pre,post,h3,h4,h5⟩:=h;exact⟨h1,h2,pre,post,h3,h4,h5.keep hb⟩
theorem Seg.cell(h:Seg w base g off cap l)(j:Nat)(hj:j<l.length):w.cell? ⟨g,off+j,none⟩=some (.int .i64 (l[j]:Int)):=by
 obtain⟨_,_,pre,post,rfl,_,h5⟩:=h;rw[h5.cell,List.getElem?_append_right (Nat.le_add_right _ _),Nat.add_sub_cancel_left,List.getElem?_append_left (by rw[aN];exact hj),bK l j hj]
theorem Seg.free(h:Seg w base g off cap l)(i:Nat):w.frozen? ⟨g,i,none⟩=false:=by
 obtain⟨_,_,_,_,_,_,h5⟩:=h;exact h5.free i
theorem Seg.set(h:Seg w base g off cap l)(j:Nat)(hj:j<l.length)(z:Nat):Seg (w.setCell ⟨g,off+j,none⟩ (.int .i64 (z:Int))) base g off cap (l.set j z):=by
 obtain⟨h1,h2,pre,post,rfl,h4,h5⟩:=h;refine⟨h1,h2,pre,post,rfl,by rw[List.length_set];exact h4,?_⟩;have h6:=h5.aT (pre.length+j) (.int .i64 (z:Int));rw[List.set_append_right _ _ (Nat.le_add_right _ _),Nat.add_sub_cancel_left,List.set_append_left _ _ (by rw[aN];exact hj)]at h6;rw[show aM (l.set j z)=(aM l).set j (.int .i64 (z:Int)) by simp[aM,List.map_set]];exact h6
theorem Seg.below(h:Seg w base g off cap l)(hb:Below w.heap.size w w'):Seg w' base g off cap l:=h.keep (hb.block g h.lt)
end
theorem PE{w:World}{base n:Nat}{v:Value}{l:List Nat}(h:w.ownsRow base 3 1 v n (aM l))(hn:0<n):l.length=n/\∃g cap,v=.slice (some ⟨g,0,none⟩) n cap/\Seg w base g 0 cap l:=by
 have hl:l.length=n:=by have:=h.1;rw[aN,Nat.mul_one]at this;exact this
 rcases h.2 with⟨_,h0⟩ | ⟨g,cap,cur,rfl,hb,hg,hnc,hcm,hcs,ht⟩
 ·omega
 ·rw[Nat.mul_one]at ht hcs;refine⟨hl,g,cap,rfl,hb,hcm,[],cur.toList.drop n,rfl,by have hcl:cur.toList.length=cur.size:=Array.length_toList;rw[List.length_drop];omega,?_⟩;unfold Row;rw[List.nil_append,<-ht,List.take_append_drop,Array.toArray_toList];exact hg
namespace Bm
theorem Jv(a b:List Nat):jk (a++b)=jk a++jk b:=by
 induction a with
 | nil=>rfl
 | cons x a ih=>rw[List.cons_append,jk,jk,ih];split<;>rfl
theorem Vm(cs:List Nat)(k:Nat)(h:k<cs.length):jk (cs.take (k+1))=jk (cs.take k)++if 0<cs[k]then [cs[k]]else []:=by
 rw[List.take_succ_eq_append_getElem h,Jv];rfl
theorem Vk(cs:List Nat):(jk cs).length<=cs.length:=by
 induction cs with
 | nil=>simp[jk]
 | cons x a ih=>rw[jk];split<;>simp<;>omega
theorem aaF(cs:List Nat)(x:Nat):x∈jk cs->x∈cs/\0<x:=by
 induction cs with
 | nil=>simp[jk]
 | cons y a ih=>
  rw[jk];split
  ·next h=>
   intro hx;rcases List.mem_cons.1 hx with rfl | hx
   ·exact⟨List.mem_cons_self,h⟩
   ·exact⟨List.mem_cons_of_mem _ (ih hx).1,(ih hx).2⟩
  ·intro hx;exact⟨List.mem_cons_of_mem _ (ih hx).1,(ih hx).2⟩
theorem Vl(cs:List Nat)(h:∃x∈cs,0<x):0<(jk cs).length:=by
 obtain⟨x,hx,h0⟩:=h;induction cs with
 | nil=>simp at hx
 | cons y a ih=>
  rw[jk];split
  ·simp
  ·next hy=>
   rcases List.mem_cons.1 hx with rfl | hx
   ·exact absurd h0 hy
   ·exact ih hx
end Bm
def akA:Prop:=∀(w:World) (A:Option Addr) (c:Nat) (l:List Int),l.length<=1000000000->(∀x∈l,bO x)->Reads w A (mH l)->Bm.Right l ->
 Calls prog 100 #[.slice A l.length c] w fun e w'=>∃B d ls,e=.returned (.tuple #[.slice B l.length d,.bool true])/\l.length<=d/\Reads w' B (aM ls)/\Bj (l.map Int.toNat) ls/\Below w.heap.size w w'
namespace Bm
theorem Lm:∀(l:List Nat),l.Pairwise (·<=·)->mD l=l
 | [],_=>rfl
 | x :: l,h=>by
  rw[List.pairwise_cons]at h;rw[mD,Lm l h.2,xu x l h.1]
end Bm
theorem WS.below{w w':World}{b off N n:Nat}(h:WS w b off N n)(hb:Below w.heap.size w w'):WS w' b off N n:=h.keep (row:=none) (ak hb none) (by simp) (by simp)
theorem RS.below{w w':World}{b off pos:Nat}{bs:List Nat}(h:RS w b off bs pos)(hb:Below w.heap.size w w'):RS w' b off bs pos:=h.keep (row:=none) (ak hb none) (by simp)
structure Fam(w:World)(base:Nat)(vs:List Value)(L:Nat->List Nat):Prop where
 own:∀(s:Nat) (v:Value),vs[s]?=some v->w.ownsRow base 3 1 v (L s).length (aM (L s))
 apart:∀(s t:Nat) (v u:Value) (g:Nat),s≠t->vs[s]?=some v->vs[t]?=some u->v.ownBlock=some g->u.ownBlock≠some g
section
variable {w w':World} {base:Nat} {vs:List Value} {L L':Nat->List Nat}
theorem Fam.amd(w:World)(base n:Nat)(hL:∀s,L s=[]):Fam w base (List.replicate n (.slice none 0 0)) L where
 own:=fun s v hv=>by
  rw[List.getElem?_replicate]at hv;split at hv
  ·injection hv with hv
   subst hv;rw[hL s];exact World.ownsRow_nil _ _ _ _
  ·cases hv
 apart:=fun s t v u g _ hv _ hg=>by
  rw[List.getElem?_replicate]at hv;split at hv
  ·injection hv with hv
   subst hv;simp[Value.ownBlock]at hg
  ·cases hv
theorem Fam.below(h:Fam w base vs L)(hb:Below w.heap.size w w'):Fam w' base vs L:=⟨fun s v hv=>own_below (h.own s v hv) hb,h.apart⟩
theorem Fam.UG(h:Fam w base vs L){b:Nat}{t:TypeId}{cs:List Value}(hr:Row w b t cs)(hne:t≠3):∀(s:Nat) (v:Value),vs[s]?=some v->v.ownBlock≠some b:=by
 intro s v hv hb;obtain⟨c,fz,hk⟩:=Lib.ownsRow_kind (h.own s v hv) b hb;unfold Row at hr;rw[hr]at hk;injection hk with hk
 injection hk with _ hk
 exact hne hk
theorem Fam.far(h:Fam w base vs L){p:Addr}(hp:∀(s:Nat) (v:Value),vs[s]?=some v->v.ownBlock≠some p.block)(u:Value):Fam (w.setCell p u) base vs L:=⟨fun s v hv=>ownsRow_setCell_other (h.own s v hv) (hp s v hv) u,h.apart⟩
theorem Fam.push(h:Fam w base vs L){s:Nat}{v:Value}(hv:vs[s]?=some v){g n cap:Nat}(hg:w.grownBy w' v.ownBlock)(hat:v.ownBlock=some g\/g=w.heap.size)
  (hown:w'.ownsRow base 3 1 (.slice (some ⟨g,0,none⟩) n cap) n (aM (L' s))) (hn:(L' s).length=n) (hL:∀t,t≠s->L' t=L t):Fam w' base (vs.set s (.slice (some ⟨g,0,none⟩) n cap)) L' where
 own:=fun t u hu=>by
  by_cases e:s=t
  ·subst e;have hl:s<vs.length:=(List.getElem?_eq_some_iff.1 hv).1;rw[List.getElem?_set_self hl]at hu;injection hu with hu
   subst hu;rw[hn];exact hown
  ·rw[List.getElem?_set_ne e]at hu;rw[hL t (Ne.symm e)];refine(h.own t u hu).kept hg ?_;rcases hq:u.ownBlock with _ | q
   ·exact .inl rfl
   ·exact .inr (fun hh=>h.apart t s u v q (Ne.symm e) hu hv hq hh.symm)
 apart:=fun a b x y q hab hx hy hq=>by
  have hl:s<vs.length:=(List.getElem?_eq_some_iff.1 hv).1;have key:∀t u,t≠s->vs[t]?=some u->u.ownBlock≠some g:=fun t u ht hu he=>by
   rcases hat with h1 | h1
   ·exact h.apart t s u v g ht hu hv he h1
   ·have:=((h.own t u hu).lt g he).2;omega
  by_cases ea:s=a
  ·subst ea;rw[List.getElem?_set_self hl]at hx;rw[List.getElem?_set_ne hab]at hy;injection hx with hx
   subst hx;simp only[Value.ownBlock,Option.some.injEq]at hq;subst hq;exact key b y (Ne.symm hab) hy
  ·rw[List.getElem?_set_ne ea]at hx;by_cases eb:s=b
   ·subst eb;rw[List.getElem?_set_self hl]at hy;injection hy with hy
    subst hy;intro he;simp only[Value.ownBlock,Option.some.injEq]at he;subst he;exact key a x (Ne.symm ea) hx hq
   ·rw[List.getElem?_set_ne eb]at hy;exact h.apart a b x y q hab hx hy hq
end
def ajO(t:Bm.Stp):List Value:=[.int .i64 (t.1:Int),.int .i64 (t.2.1:Int),.int .i64 (t.2.2:Int)]
def sqs:List Bm.Stp->List Value
 | []=>[]
 | t :: l=>ajO t++sqs l
theorem AP(l:List Bm.Stp):(sqs l).length=l.length*3:=by
 induction l with
 | nil=>rfl
 | cons t l ih=>rw[sqs,List.length_append,ih,List.length_cons];simp[ajO];omega
theorem PS(l m:List Bm.Stp):sqs (l++m)=sqs l++sqs m:=by
 induction l with
 | nil=>rfl
 | cons t l ih=>rw[List.cons_append,sqs,ih,sqs,List.append_assoc]
theorem CQ(l:List Bm.Stp)(i:Nat)(h:i<l.length):(sqs l)[i*3]?=some (.int .i64 (l[i].1:Int))/\(sqs l)[i*3+1]?=some (.int .i64 (l[i].2.1:Int))/\(sqs l)[i*3+2]?=some (.int .i64 (l[i].2.2:Int)):=by
 induction l generalizing i with
 | nil=>simp at h
 | cons t l ih=>
  cases i with
  | zero=>exact⟨rfl,rfl,rfl⟩
  | succ i=>
   have h1:=ih i (by simpa using h);rw[sqs];have e:∀j,(ajO t++sqs l)[(i+1)*3+j]?=(sqs l)[i*3+j]?:=fun j=>by
    rw[List.getElem?_append_right (by simp[ajO];omega)];congr 1
    simp[ajO];omega
   have e0:=e 0;rw[Nat.add_zero,Nat.add_zero]at e0;rw[e0,e 1,e 2];exact h1
def Dp(w:World)(A:Option Addr)(l:List Bm.Stp):Prop:=0<l.length->∃g off,A=some ⟨g,off,none⟩/\g<w.heap.size/\∀j (h:j<l.length),w.cell? ⟨g,off+j*3,none⟩=some (.int .i64 (l[j].1:Int))/\w.cell? ⟨g,off+j*3+1,none⟩=some (.int .i64 (l[j].2.1:Int))/\w.cell? ⟨g,off+j*3+2,none⟩=some (.int .i64 (l[j].2.2:Int))
theorem Dp.below{w w':World}{A:Option Addr}{l:List Bm.Stp}(h:Dp w A l)(hb:Below w.heap.size w w'):Dp w' A l:=fun h0=>by
 obtain⟨g,off,e,hg,hc⟩:=h h0;refine⟨g,off,e,Nat.lt_of_lt_of_le hg hb.size,fun j hj=>?_⟩;obtain⟨c0,c1,c2⟩:=hc j hj;exact⟨(hb.cell (p:=⟨g,_,none⟩) hg).trans c0,(hb.cell (p:=⟨g,_,none⟩) hg).trans c1,(hb.cell (p:=⟨g,_,none⟩) hg).trans c2⟩
theorem Dp.nil(w:World)(A:Option Addr):Dp w A []:=fun h=>absurd h (by simp)
theorem agx{w:World}{base:Nat}{v:Value}{l:List Bm.Stp}(h:w.ownsRow base 121 3 v l.length (sqs l)):∃A c,v=.slice A l.length c/\Dp w A l/\c<=maxLen/\l.length<=c:=by
 rcases h.2 with⟨rfl,h0⟩ | ⟨g,cap,cur,rfl,hb,hg,hnc,hcm,hcs,ht⟩
 ·refine⟨none,0,by rw[h0],fun h1=>by omega,by unfold maxLen;omega,by omega⟩
 ·have hr:Row w g 121 (sqs l++cur.toList.drop (l.length*3)):=by
   unfold Row;rw[<-ht,List.take_append_drop,Array.toArray_toList];exact hg
  refine⟨_,cap,rfl,fun h1=>⟨g,0,rfl,hr.lt,fun j hj=>?_⟩,hcm,hnc⟩;obtain⟨c0,c1,c2⟩:=CQ l j hj;have hl:=AP l;rw[Nat.zero_add,hr.cell,hr.cell,hr.cell,List.getElem?_append_left (by omega),List.getElem?_append_left (by omega),List.getElem?_append_left (by omega)];exact⟨c0,c1,c2⟩
theorem Lh:(prog.info? 121).map (fun i=>(i.zero,i.size,i.bytes))=some (some (.agg #[.int .i64 0,.int .i64 0,.int .i64 0]),3,24):=by kernel_rfl
theorem iP{a b c:World}{row:Option Nat}(h:a.grownBy b row)(k:b.grownBy c row):a.grownBy c row:=
 ⟨k.os.trans h.os,k.tape.trans h.tape,k.output.trans h.output,Nat.le_trans h.size k.size,fun i hi hn=>(k.block i (Nat.lt_of_lt_of_le hi h.size) hn).trans (h.block i hi hn)⟩
theorem BS{a b c:World}{row:Option Nat}(h:a.grownBy b row)(k:Below b.heap.size b c):a.grownBy c row:=iP h (ak k row)
def XO(w:World)(A:Option Addr)(l:List StZ):Prop:=0<l.length->∃g off,A=some ⟨g,off,none⟩/\g<w.heap.size/\∀j (h:j<l.length),w.cell? ⟨g,off+j*3,none⟩=some (.int .i64 l[j].1)/\w.cell? ⟨g,off+j*3+1,none⟩=some (.int .i64 l[j].2.1)/\w.cell? ⟨g,off+j*3+2,none⟩=some (.int .i64 l[j].2.2)
def ZOk(l:List StZ):Prop:=∀s∈l,bO s.1/\bO s.2.1/\bO s.2.2
theorem XO.below{w w':World}{A:Option Addr}{l:List StZ}(h:XO w A l)(hb:Below w.heap.size w w'):XO w' A l:=fun h0=>by
 obtain⟨g,off,e,hg,hc⟩:=h h0;refine⟨g,off,e,Nat.lt_of_lt_of_le hg hb.size,fun j hj=>?_⟩;obtain⟨c0,c1,c2⟩:=hc j hj;exact⟨(hb.cell (p:=⟨g,_,none⟩) hg).trans c0,(hb.cell (p:=⟨g,_,none⟩) hg).trans c1,(hb.cell (p:=⟨g,_,none⟩) hg).trans c2⟩
theorem ads{w:World}{A:Option Addr}{l:List Bm.Stp}(h:Dp w A l):XO w A (l.map sw):=fun h0=>by
 obtain⟨g,off,e,hg,hc⟩:=h (by simpa using h0);refine⟨g,off,e,hg,fun j hj=>?_⟩;have h1:=hc j (by simpa using hj);rw[List.getElem_map];exact h1
theorem agz(l:List Nat)(i j:Nat)(h:i<=j)(h2:j<=l.length)(W:World):(Instr.slice 9 (.string (strOf l)) (some (.int .i64 (i:Int))) (some (.int .i64 (j:Int))) none).run prog W=.ok (.string (strOf ((l.take j).drop i))) W:=by
 rw[run_slice_string W 9 _ .i64 .i64 i j underlying9 (by omega) (by omega) (by rw[aA];omega),Int.toNat_natCast,Int.toNat_natCast,lK]
structure Bh(w:World)(base:Nat)(vs:List Value)(L:Nat->List Nat):Prop where
 own:∀(s:Nat) (v:Value),vs[s]?=some v->w.ownsRow base 5 1 v (L s).length (u8s (L s))
 apart:∀(s t:Nat) (v u:Value) (g:Nat),s≠t->vs[s]?=some v->vs[t]?=some u->v.ownBlock=some g->u.ownBlock≠some g
section
variable {w w':World} {base:Nat} {vs:List Value} {L L':Nat->List Nat}
theorem Bh.amd(w:World)(base n:Nat)(hL:∀s,L s=[]):Bh w base (List.replicate n (.slice none 0 0)) L where
 own:=fun s v hv=>by
  rw[List.getElem?_replicate]at hv;split at hv
  ·injection hv with hv
   subst hv;rw[hL s];exact World.ownsRow_nil _ _ _ _
  ·cases hv
 apart:=fun s t v u g _ hv _ hg=>by
  rw[List.getElem?_replicate]at hv;split at hv
  ·injection hv with hv
   subst hv;simp[Value.ownBlock]at hg
  ·cases hv
theorem Bh.below(h:Bh w base vs L)(hb:Below w.heap.size w w'):Bh w' base vs L:=⟨fun s v hv=>own_below (h.own s v hv) hb,h.apart⟩
theorem Bh.far(h:Bh w base vs L){p:Addr}(hp:∀(s:Nat) (v:Value),vs[s]?=some v->v.ownBlock≠some p.block)(u:Value):Bh (w.setCell p u) base vs L:=⟨fun s v hv=>ownsRow_setCell_other (h.own s v hv) (hp s v hv) u,h.apart⟩
theorem Bh.push(h:Bh w base vs L){s:Nat}{v:Value}(hv:vs[s]?=some v){g n cap:Nat}(hg:w.grownBy w' v.ownBlock)(hat:v.ownBlock=some g\/g=w.heap.size)
  (hown:w'.ownsRow base 5 1 (.slice (some ⟨g,0,none⟩) n cap) n (u8s (L' s))) (hn:(L' s).length=n) (hL:∀t,t≠s->L' t=L t):Bh w' base (vs.set s (.slice (some ⟨g,0,none⟩) n cap)) L' where
 own:=fun t u hu=>by
  by_cases e:s=t
  ·subst e;have hl:s<vs.length:=(List.getElem?_eq_some_iff.1 hv).1;rw[List.getElem?_set_self hl]at hu;injection hu with hu
   subst hu;rw[hn];exact hown
  ·rw[List.getElem?_set_ne e]at hu;rw[hL t (Ne.symm e)];refine(h.own t u hu).kept hg ?_;rcases hq:u.ownBlock with _ | q
   ·exact .inl rfl
   ·exact .inr (fun hh=>h.apart t s u v q (Ne.symm e) hu hv hq hh.symm)
 apart:=fun a b x y q hab hx hy hq=>by
  have hl:s<vs.length:=(List.getElem?_eq_some_iff.1 hv).1;have key:∀t u,t≠s->vs[t]?=some u->u.ownBlock≠some g:=fun t u ht hu he=>by
   rcases hat with h1 | h1
   ·exact h.apart t s u v g ht hu hv he h1
   ·have:=((h.own t u hu).lt g he).2;omega
  by_cases ea:s=a
  ·subst ea;rw[List.getElem?_set_self hl]at hx;rw[List.getElem?_set_ne hab]at hy;injection hx with hx
   subst hx;simp only[Value.ownBlock,Option.some.injEq]at hq;subst hq;exact key b y (Ne.symm hab) hy
  ·rw[List.getElem?_set_ne ea]at hx;by_cases eb:s=b
   ·subst eb;rw[List.getElem?_set_self hl]at hy;injection hy with hy
    subst hy;intro he;simp only[Value.ownBlock,Option.some.injEq]at he;subst he;exact key a x (Ne.symm ea) hx hq
   ·rw[List.getElem?_set_ne eb]at hy;exact h.apart a b x y q hab hx hy hq
end
end Go.Proofs.YtaebnkeddcbmkaaGreat
