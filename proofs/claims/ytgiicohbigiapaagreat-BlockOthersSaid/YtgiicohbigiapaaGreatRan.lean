/- Contracts, and what they rest on. Conditions: the theorems' premises. -/
import Derived.Test.YtgiicohbigiapaaGreatRai
import Derived.Test.YtgiicohbigiapaaGreatRam
set_option maxHeartbeats 4000000
set_option maxRecDepth 100000
open Go.Lib(hid)
open Go.Proofs.Tryz Go.Proofs.YtgiicohbigiapaaGreat.Bm
namespace Go.Proofs.YtgiicohbigiapaaGreat
open Go.RowKit
theorem KR(g off n c:Nat)(bs:List Nat)(w:World)(h0:0<n)(hn:n≤100000000)(hl:bs.length=n)(hrd:Reads w (some ⟨g,off,none⟩) (u8s bs))(hg:g<w.heap.size) :
  Calls prog 233 #[.slice (some ⟨g,off,none⟩) n c] w fun e w'=>∃u,e=.returned u∧w'.ownsRow w.heap.size 5 1 u n (u8s bs)∧Below w.heap.size w w':=by
 obtain⟨i0,hi,hz0,hz1,hz2⟩:=info_parts jc;have hown0:(w.alloc (.cells #[] 5)).ownsRow w.heap.size 5 1 (.slice (some ⟨w.heap.size,0,none⟩) 0 0) 0 []:=World.ownsRow_lit w #[] 0 (Nat.le_refl _) (by unfold maxLen;omega) rfl;have hnews:∀j u,(u8s bs)[j]?=some u→(w.alloc (.cells #[] 5)).cell? ((⟨g,off,none⟩:Addr).add j)=some u:=by
  intro j u hj;have hjl:j<(u8s bs).length:=by
   rcases Nat.lt_or_ge j (u8s bs).length with h1 | h1
   ·exact h1
   ·rw[List.getElem?_eq_none h1]at hj;cases hj
  obtain⟨g',off',e,hc⟩:=hrd (by intro e;rw[e]at hjl;simp at hjl);injection e with e
  injection e with e1 e2
  subst e1 e2;have e:((⟨g,off,none⟩:Addr).add j)=⟨g,off+j,none⟩:=by unfold Addr.add;split<;>simp_all
  rw[e,World.cell?_alloc_lt _ _ _ (by exact hg),hc j hjl,hj]
 have hnil:∀W,(binOp .eql 87 (.slice (some ⟨g,off,none⟩) n c) (.slice none 0 0)).run prog W=.ok (.bool false) W:=fun W=>Lib.run_eql_slice_nil W _ _ _ _ _ _ _ underlying87
 have dS:=hid hnews;have BQ:=hid hown0;have Hl:=hid hl;clear hnews hown0 hrd hl;go_enter func233,ntmps233
 go_wp2_with (at_builtin;refine wpList_append_own _ rfl _ _ 87 rfl w.heap.size 5 i0 (.int .u8 0) 1 1 underlying87 hi hz0 hz1 hz2 rfl (by decide) _ _ _ rfl BQ.out ⟨g,off,none⟩ n c (u8s bs) rfl ?c0 dS.out ?c2 ?c3 ?c4 ?c5 ?_)
 case c0=>rw[aO,Hl.out,Nat.mul_one]
 case c2=>intro u hu;simp[u8s]at hu;obtain⟨a,_,rfl⟩:=hu;rfl
 case c3=>unfold maxLen;omega
 case c4=>omega
 case c5=>simp
 intro v' w2 hown2 ajC _;have hb2:Below w.heap.size w w2:=((Below.refl w.heap.size w).alloc (Nat.le_refl _) _).grown ajC (by simp) (fun k e=>by
  have:k=w.heap.size:=by simpa [Value.ownBlock]using e.symm
  rw[this];exact Nat.le_refl _)
 have tT:=hid hown2;have Hb:=hid hb2;clear hown2 hb2 ajC BQ dS;go_wp2;go_ret;exact⟨_,rfl,tT.out,Hb.out⟩
theorem Me(A:Option Addr)(c:Nat)(w:World) :
  Calls prog 224 #[.slice A 0 c] w fun e w'=>e=.returned (.tuple #[.pointer none,.bool false])∧w=w':=by
 go_enter func224,ntmps224
 go_wp2;go_ret2;exact⟨rfl,rfl⟩
theorem Rw(g off q c:Nat)(w:World)(hq:q≤100000000)(hc:w.cell? ⟨g,off+q,none⟩=some (.int .u8 0)) :
  Calls prog 224 #[.slice (some ⟨g,off,none⟩) (q+1) c] w fun e w'=>e=.returned (.tuple #[.pointer none,.bool false])∧w=w':=by
 go_enter func224,ntmps224
 go_wp2;go_ret2;exact⟨rfl,rfl⟩
theorem afQ{w w2:World}{g cap q left:Nat}{bs:List Nat}(hown:w2.ownsRow w.heap.size 5 1 (.slice (some ⟨g,0,none⟩) q cap) q (u8s bs))(hl:bs.length=q)(hg:w.heap.size≤g)(hg2:g<w2.heap.size)(hs:w.heap.size≤w2.heap.size)(t:TypeId) :
  TS (w2.alloc (.cells #[.slice (some ⟨g,0,none⟩) q cap,.int .i64 (left:Int)] t)) w.heap.size w2.heap.size bs left:=by
 have hrow:Row (w2.alloc (.cells #[.slice (some ⟨g,0,none⟩) q cap,.int .i64 (left:Int)] t)) w2.heap.size t [.slice (some ⟨g,0,none⟩) q cap,.int .i64 (left:Int)]:=Row.new w2 t _;have hrd:Reads w2 (some ⟨g,0,none⟩) (u8s bs):=by
  obtain⟨A,c',e,h,_⟩:=dM hown;injection e with e1 e2 e3
  subst e1;exact h
 obtain⟨hc1,hc2⟩:=Ry hown;subst hl;exact⟨g,cap,hrow.cell 0,hrow.cell 1,hrow.free 1,hs,hrow.lt,hg,by simp;omega,by omega,hc1,hc2,Gq hrd hg2 _⟩
theorem Rv(g off q c:Nat)(bs:List Nat)(x:Nat)(w:World)(hq:q≤10000000)(hx:x<256)(hx0:x≠0)(hl:bs.length=q+1)(hlast:bs[q]'(by omega)=x)
  (hrd:Reads w (some ⟨g,off,none⟩) (u8s bs)) (hg:g<w.heap.size) :
  Calls prog 224 #[.slice (some ⟨g,off,none⟩) (q+1) c] w fun e w'=>∃b,e=.returned (.tuple #[.pointer (some ⟨b,0,none⟩),.bool true]) ∧
   TS w' w.heap.size b bs (8*q+(Lib.bitLen x-1))∧Below w.heap.size w w':=by
 obtain⟨h1,h8,_,_⟩:=yE ⟨x,hx⟩ hx0;simp only at h1 h8;have hc:w.cell? ⟨g,off+q,none⟩=some (.int .u8 (x:Int)):=by
  obtain⟨g',off',e,hc⟩:=fT hrd (by intro e;rw[e]at hl;simp at hl);injection e with e
  injection e with e1 e2
  subst e1 e2;rw[hc q (by omega),hlast]
 have hcl:=KR g off (q+1) c bs w (by omega) (by omega) hl hrd hg;have hwd:=Uj x w (by omega);have hxz:((x:Int) == 0)=false:=by simp;omega
 have Hcl:=hid hcl;have Hl:=hid hl;have Hwd:=hid hwd;clear hcl hl hwd hrd hlast hx0;generalize Lib.bitLen x=L at h1 h8 Hwd;obtain⟨left,hleft⟩:∃l,l=8*q+(L-1):=⟨_,rfl⟩;have hs:8*(q:Int)+((L:Int)-1)=(left:Int):=by omega
 have Hs:=hid hs;have NW:=hid hleft;clear hs hleft;go_enter func224,ntmps224
 go_wp2_with fail
 refine Hwd.out.mono ?_;rintro e w1 ⟨rfl,rfl⟩;go_wp2_with fail
 refine Hcl.out.mono ?_;rintro e w2 ⟨u,rfl,hown,hb2⟩;obtain⟨g2,cap2,hu,hg2,alI⟩:=Ba hown (by omega);rw[hu]at hown ⊢;have hts:=afQ (left:=left) hown Hl.out hg2 alI hb2.size 302;have Hts:=hid hts;have Hb2:=hid hb2;clear hts hb2 hown hu Hcl Hwd;go_wp2;go_ret2;rw[Hs.out,←NW.out];exact⟨_,rfl,Hts.out,Hb2.out.alloc Hb2.out.size _⟩
theorem yt(b off N n:Nat)(w:World)(hn:n≤100000000)(hN:N<2^n)(h8:n%8=0)(h:WS w b off N n) :
  Calls prog 201 #[.pointer (some ⟨b,off,none⟩)] w fun e w'=>∃g cap,e=.returned (.slice (some ⟨g,0,none⟩) (n/8+1) cap) ∧
   w'.ownsRow w.heap.size 5 1 (.slice (some ⟨g,0,none⟩) (n/8+1) cap) (n/8+1) (u8s (Bm.bytesOf (N+2^n) (n/8+1)))∧Below w.heap.size w w':=by
 obtain⟨i0,hi,hz0,hz1,hz2⟩:=info_parts jc;have hby:=jV b off N n w (by omega) h;obtain⟨q,hq⟩:∃q,q=n/8:=⟨_,rfl⟩;have hq2:(n+7)/8=q:=by omega
 have hqb:q≤100000000:=by omega
 have hsw:=MK N n hN h8;rw[←hq,hq2]at hsw;rw[hq2]at hby;rw[←hq];have hws:∀w',Below w.heap.size w w'→WS w' b off N n:=fun w' hb=>h.keep (ak hb none) (by simp) (by simp)
 have h8b:((n:Int)%8 == 0)=true:=by simp;omega
 have Hby:=hid hby;have Hws:=hid hws;have Hsw:=hid hsw;clear hby hws hsw hN h hq hq2 h8;go_enter func201,ntmps201
 go_wp2_with fail
 refine Hby.out.mono ?_;rintro e w1 ⟨g,rfl,hg,hrow,hb1⟩;have hlen:=QK b off (n:Int) w1 (Hws.out w1 hb1).Jm;have hown:=zu hrow hg (by rw[Bm.bytesOf_length];omega);rw[Bm.bytesOf_length]at hown;have Hlen:=hid hlen;have tT:=hid hown;have Hb1:=hid hb1;clear hlen hown hb1 hrow Hby Hws;go_wp2_with fail
 refine Hlen.out.mono ?_;rintro e w2 ⟨rfl,rfl⟩;go_wp2_with (at_builtin;refine wpList_append_own _ rfl _ _ 87 rfl w.heap.size 5 i0 (.int .u8 0) 1 1 underlying87 hi hz0 hz1 hz2 rfl (by decide) _ _ _ rfl (tT.out.alloc _) ⟨w1.heap.size,0,none⟩ 1 1 [.int .u8 1] rfl rfl ?c1 ?c2 ?c3 ?c4 ?c5 ?_)
 case c1=>
  intro j u hj;match j,hj with
  | 0,hj=>simp at hj;subst hj;simp[Addr.add]
 case c2=>intro u hu;simp at hu;subst hu;rfl
 case c3=>unfold maxLen;omega
 case c4=>omega
 case c5=>have:=Hb1.out.size;simp;omega
 intro u' w3 hown' hgrow _;have e:u8s (Bm.bytesOf N q)++[Value.int .u8 1]=u8s (Bm.bytesOf (N+2^n) (q+1)):=by
  rw[←Hsw.out];simp[u8s]
 rw[e]at hown';have hb':Below w.heap.size w w3:=(Hb1.out.alloc Hb1.out.size _).grown hgrow (by have:=Hb1.out.size;simp;omega) (fun k e=>by
  have:k=g:=by simpa [Value.ownBlock]using e.symm
  omega)
 obtain⟨g3,aiZ,hu,_,_⟩:=Ba hown' (by omega);rw[hu]at hown' ⊢;have agP:=hid hown';have Hb':=hid hb';clear hown' hb' hgrow hu e;go_wp2;go_ret;exact⟨_,_,rfl,agP.out,Hb'.out⟩
theorem or_bit(x r:Nat)(hx:x<2^r)(hr:r<8):bits .or .u8 (x:Int) (2^r%256)=((x+2^r:Nat):Int):=by
 have h2:2^r≤128:=Nat.pow_le_pow_right (n:=2) (j:=7) (by omega) (by omega);have e2:(2:Int)^r=((2^r:Nat):Int):=by simp
 have h4:=wu r x 1 hx;rw[Nat.one_mul]at h4;rw[e2];generalize 2^r=y at hx h2 h4 ⊢;rw[show((y:Nat):Int)%256=((y:Nat):Int) by omega,u8_or_nat _ _ (by omega) (by omega),h4]
theorem Bh(b off N n:Nat)(w:World)(hn:n≤100000000)(hN:N<2^n)(h8:n%8≠0)(h:WS w b off N n) :
  Calls prog 201 #[.pointer (some ⟨b,off,none⟩)] w fun e w'=>∃g cap,e=.returned (.slice (some ⟨g,0,none⟩) (n/8+1) cap) ∧
   w'.ownsRow w.heap.size 5 1 (.slice (some ⟨g,0,none⟩) (n/8+1) cap) (n/8+1) (u8s (Bm.bytesOf (N+2^n) (n/8+1)))∧Below w.heap.size w w':=by
 have hby:=jV b off N n w (by omega) h;rw[show(n+7)/8=n/8+1 by omega]at hby;have hsw:=SK N n hN;have hws:∀w',Below w.heap.size w w'→WS w' b off N n:=fun w' hb=>h.keep (ak hb none) (by simp) (by simp)
 have h8b:((n:Int)%8 == 0)=false:=by simp;omega
 have hxl:N/256^(n/8)%256<2^(n%8):=by
  refine Nat.lt_of_le_of_lt (Nat.mod_le _ _) ?_;rw[rO,Nat.div_lt_iff_lt_mul (Nat.two_pow_pos _),←Nat.pow_add,Nat.mod_add_div];exact hN
 have hget:(u8s (Bm.bytesOf N (n/8+1)))[n/8]?=some (.int .u8 ((N/256^(n/8)%256:Nat):Int)):=by
  rw[bD _ _ (by rw[Bm.bytesOf_length];omega),fB]
 have hor:=or_bit _ _ hxl (by omega);generalize N/256^(n/8)%256=x at hsw hget hor hxl;have Hby:=hid hby;have Hws:=hid hws;have Hsw:=hid hsw;have UE:=hid hget;have Hor:=hid hor;clear hby hws hsw hN h h8 hget hor hxl;go_enter func201,ntmps201
 go_wp2_with fail
 refine Hby.out.mono ?_;rintro e w1 ⟨g,rfl,hg,hrow,hb1⟩;have hlen:=QK b off (n:Int) w1 (Hws.out w1 hb1).Jm;have hcell:=(hrow.cell (n/8)).trans UE.out;have hfree:=hrow.free (n/8);have hset:=hrow.aW (n/8) (.int .u8 ((x+2^(n%8):Nat):Int));rw[xG,Hsw.out]at hset;have hown:=zu hset hg (by rw[Bm.bytesOf_length];omega);rw[Bm.bytesOf_length]at hown;have Hlen:=hid hlen;have tT:=hid hown;have Hb1:=hid hb1;clear hlen hown hb1 hrow Hby Hws hset;go_wp2_with fail
 refine Hlen.out.mono ?_;rintro e w2 ⟨rfl,rfl⟩;go_wp2;go_region
 all_goals go_wp2
 go_ret;rw[Hor.out];exact⟨_,_,rfl,tT.out,(Hb1.out.setCell hg _).drew⟩
theorem XK(b off N n:Nat)(w:World)(hn:n≤100000000)(hN:N<2^n)(h:WS w b off N n) :
  Calls prog 201 #[.pointer (some ⟨b,off,none⟩)] w fun e w'=>∃g cap,e=.returned (.slice (some ⟨g,0,none⟩) (n/8+1) cap) ∧
   w'.ownsRow w.heap.size 5 1 (.slice (some ⟨g,0,none⟩) (n/8+1) cap) (n/8+1) (u8s (Bm.bytesOf (N+2^n) (n/8+1)))∧Below w.heap.size w w':=by
 by_cases h8:n%8=0
 ·exact yt b off N n w hn hN h8 h
 ·exact Bh b off N n w hn hN h8 h
end Go.Proofs.YtgiicohbigiapaaGreat
