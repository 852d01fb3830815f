/- Contracts, and what they rest on. Conditions: the theorems' premises. -/
import Derived.Test.YtgiicohbigiapaaGreatYae
import Derived.Deep.DeepCutAuto
set_option maxHeartbeats 4000000
set_option maxRecDepth 100000
open Go.Lib(hid)
open Go.Proofs.Tryz Go.Proofs.YtgiicohbigiapaaGreat.Bm
namespace Go.Proofs.YtgiicohbigiapaaGreat
open Go.RowKit
theorem Ox(B b left:Nat)(bs:List Nat)(m:Nat)(w:World)(hs:bs.length≤100000000)(hbs:∀x∈bs,x<256)(hm:m≤32)(hle:m≤left)(hlb:left<8*bs.length)(h:TS w B b bs left) :
  Calls prog 225 #[.pointer (some ⟨b,0,none⟩),.int .i64 (m:Int)] w fun e w'=>
   e=.returned (.tuple #[.int .u32 ((aV bs/2^(left-m)%2^m:Nat):Int),.bool true])∧TS w' B b bs (left-m)∧w.grownBy w' (some b)∧w'.cell? ⟨b,0,none⟩=w.cell? ⟨b,0,none⟩:=by
 have Hst:=hid (h.step (left-m));obtain⟨g,cap,h0,h1,h2,h3,h4,h5,h6,h7,h8,h9,h10⟩:=h;have Hbw:=hid h4;obtain⟨at',hat⟩:∃a,a=left-m:=⟨_,rfl⟩;obtain⟨f,hf⟩:∃f,f=at'/8:=⟨_,rfl⟩;obtain⟨r8,hr8⟩:∃r,r=at'%8:=⟨_,rfl⟩;obtain⟨t,ht⟩:∃t,t=f+min 5 (bs.length-f):=⟨_,rfl⟩;have hfl:f<bs.length:=by omega
 have hft:f<t:=by omega
 have htl:t≤bs.length:=by omega
 have amb:r8<8:=by omega
 have alK:at'≤800000000:=by omega
 have hfb:f≤100000000:=by omega
 have ha1:(left:Int)-(m:Int)=(at':Int):=by omega
 have ha2:(at':Int)/8=(f:Int):=by omega
 have ha3:min ((f:Int)+5) (bs.length:Int)=(t:Int):=by omega
 have ha4:(at':Int)%8=(r8:Int):=by omega
 have hlen:((bs.drop f).take (t-f)).length=t-f:=by simp;omega
 have hsl:∀W:World,(Instr.slice 87 (.slice (some ⟨g,0,none⟩) bs.length cap) (some (.int .i64 (f:Int))) (some (.int .i64 (t:Int))) none).run prog W=.ok (.slice (some ⟨g,f,none⟩) (t-f) (cap-f)) W:=
  fun W=>Sq g bs.length cap f t W hft htl h8
 have hsub:∀x∈(bs.drop f).take (t-f),x<256:=fun x hx=>hbs x (List.mem_of_mem_drop (List.mem_of_mem_take hx))
 have hval:=Ta bs hbs at' m (t-f) hm (by omega) (by omega);rw[←hf,←hr8,hat]at hval;have hfit:r8+m≤8*(t-f):=by omega
 have hst:TS (w.setCell ⟨b,1,none⟩ (.int .i64 (at':Int))) B b bs at':=by rw[hat];exact Hst.out
 have hrd:=RF (Du (b:=b) (i:=1) (u:=.int .i64 (at':Int)) h10 h7) hft htl;have hd0:(w.setCell ⟨b,1,none⟩ (.int .i64 (at':Int))).cell? ⟨b,1,none⟩=some (.int .i64 (at':Int)):=World.cell?_setCell_same _ _ _ h1;have hbl:b<(w.setCell ⟨b,1,none⟩ (.int .i64 (at':Int))).heap.size:=by simpa using h4
 have Hrd:=hid hrd;have Hts:=hid hst;have Ha1:=hid ha1;have Ha2:=hid ha2;have Ha3:=hid ha3;have Ha4:=hid ha4;have Hlen:=hid hlen;have agm:=hid hsub;have akw:=hid hval;have Hd0:=hid hd0;clear Hst hst hrd ha1 ha2 ha3 ha4 hlen hsub hval hbs h5 h6 h7 h9 h10 hf hr8 ht hd0;go_enter func225,ntmps225
 go_upto_region 4 with fail
 rw[Ha1.out];have Hat:=hid hat;clear hat;go_upto_region 6 with fail
 rw[Ha2.out,Ha3.out];go_wp2_with fail
 refine(aeU (some ⟨g,f,none⟩) (t-f) (cap-f) _ _ Hlen.out agm.out Hrd.out).mono ?_;rintro e w2 ⟨rfl,Ng,hb2⟩;obtain⟨nb,hnb⟩:∃x,x=(w.setCell ⟨b,1,none⟩ (.int .i64 (at':Int))).heap.size:=⟨_,rfl⟩;rw[←hnb]at Ng ⊢;have d1:w2.cell? ⟨b,1,none⟩=some (.int .i64 (at':Int)):=(hb2.cell (p:=⟨b,1,none⟩) hbl).trans Hd0.out;have Yv:=hid Ng;rw[←hnb]at hb2;have hs2:=hb2.size;rw[←hnb]at hs2;have Hb2:=hid hb2;have hbn:b<nb:=by rw[hnb];exact hbl
 have hsn:w.heap.size≤nb:=by rw[hnb];simp
 have Hnb:=hid hnb;clear hb2 Ng hsl hnb hbl Hd0;go_wp2_with fail
 rw[Ha4.out];refine(jG nb 0 _ 0 r8 w2 (by rw[Hlen.out];omega) agm.out (by omega) (by rw[Hlen.out];omega) Yv.out).mono ?_;rintro e w3 ⟨rfl,Nh,hg3⟩;generalize aV (List.take (t-f) (List.drop f bs))/2^0%2^r8=junk;have Zx:=hid Nh;have Hb3:=hid (Hb2.out.trans (below_grown hg3 (Nat.le_refl _) hs2));have hs3:=hg3.size;clear Nh hg3 Hb2 Yv d1;go_wp2_with fail
 refine(jG nb 0 _ (0+r8) m w3 (by rw[Hlen.out];omega) agm.out hm (by rw[Hlen.out];omega) Zx.out).mono ?_;rintro e w4 ⟨rfl,_,hg4⟩;rw[Nat.zero_add,akw.out];have Hb4:=hid (Hb3.out.trans (below_grown hg4 (Nat.le_refl _) (by omega)));clear hg4 Hb3 Zx;generalize hy:aV bs/2^(left-m)%2^m=y;have Hy:=hid hy;clear hy;go_wp2;go_ret2;have hb4:=Hb4.out;rw[Hnb.out]at hb4;rw[Hy.out];refine⟨rfl,?_,(aH (ak w (some b)) 1 (.int .i64 (at':Int))).trans (aj hb4 (some b)),?_⟩
 ·rw[←Hat.out];exact Hts.out.keep (aj hb4 none) (by simp)
 ·rw[hb4.cell (p:=⟨b,0,none⟩) (by simpa using Hbw.out),World.cell?_setCell_other _ _ _ _ (by intro e;injection e with _ e _;omega)]
end Go.Proofs.YtgiicohbigiapaaGreat
