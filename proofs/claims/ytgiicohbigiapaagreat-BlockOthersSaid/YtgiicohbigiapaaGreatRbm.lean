/- Contracts, and what they rest on. Conditions: the theorems' premises. -/
import Derived.Test.YtgiicohbigiapaaGreatRbl
import Derived.Test.YtgiicohbigiapaaGreatRaz
import Derived.Test.YtgiicohbigiapaaGreatRaq
set_option maxHeartbeats 4000000
set_option maxRecDepth 100000
open Go.Lib(hid)
open Go.Proofs.Tryz Go.Proofs.YtgiicohbigiapaaGreat.Bm
namespace Go.Proofs.YtgiicohbigiapaaGreat
open Go.RowKit
def aew(w':World)(e:Ending):Option (List Bm.Stp)→Prop
 | none=>∃A c,e=.returned (.tuple #[.slice A 0 c,.bool false])
 | some l=>∃A c,e=.returned (.tuple #[.slice A l.length c,.bool true])∧BL w' A l
theorem WR(n:Nat):(madeCells #[Value.int .i64 0,.int .i64 0,.int .i64 0] (n*3)).toList=sqs (List.replicate n (0,0,0)):=by
 apply List.ext_getElem
 ·simp[madeCells,zH]
 ·intro i h1 h2;have hi:i<n*3:=by simpa [madeCells]using h1
  have hq:i/3<(List.replicate n ((0,0,0):Bm.Stp)).length:=by simp;omega
  obtain⟨e0,e1,e2⟩:=Bl (List.replicate n (0,0,0)) (i/3) hq;rw[List.getElem_replicate]at e0 e1 e2;have hl:(madeCells #[Value.int .i64 0,.int .i64 0,.int .i64 0] (n*3)).toList[i]=(#[Value.int .i64 0,.int .i64 0,.int .i64 0]:Array Value)[i%3]!:=by simp[madeCells]
  have hr:i%3=0∨i%3=1∨i%3=2:=by omega
  rw[hl,←Option.some_inj,←List.getElem?_eq_getElem h2];rcases hr with hr | hr | hr<;>rw[hr]
  ·rw[show i=i/3*3 by omega,e0];rfl
  ·rw[show i=i/3*3+1 by omega,e1];rfl
  ·rw[show i=i/3*3+2 by omega,e2];rfl
theorem QZ(n:Nat)(h:n≤1000000)(W:World):(Instr.makeSlice 68 (.int .i64 (n:Int)) (.int .i64 (n:Int))).run prog W=.ok (.slice (some ⟨W.heap.size,0,none⟩) n n) (W.alloc (.cells (sqs (List.replicate n (0,0,0))).toArray 118)):=by
 obtain⟨i0,hi,hz0,hz1,hz2⟩:=info_parts Jd;have h1:=run_make (P:=prog) W 68 118 i0 _ underlying68 hi hz0 .i64 .i64 (n:Int) (n:Int) (by omega) (by omega) (by rw[hz2];omega) (by omega);rw[Int.toNat_natCast,hz1,show(Value.agg #[.int .i64 0,.int .i64 0,.int .i64 0]).cells=#[.int .i64 0,.int .i64 0,.int .i64 0]from rfl]at h1;rw[h1,←WR,Array.toArray_toList]
theorem acI(l:List Bm.Stp)(i:Nat)(x y z:Nat)(h:i<l.length):(((sqs l).set (i*3) (.int .i64 (x:Int))).set (i*3+1) (.int .i64 (y:Int))).set (i*3+2) (.int .i64 (z:Int))=sqs (l.set i (x,y,z)):=by
 induction l generalizing i with
 | nil=>simp at h
 | cons t l ih=>
  cases i with
  | zero=>rfl
  | succ i=>
   have h1:=ih i (by simpa using h);have e1:(i+1)*3=i*3+3:=by omega
   rw[e1,List.set_cons_succ,sqs,sqs,←h1];rfl
structure StO(w W:World)(b0 br bl bc:Nat)(vs:List Value)(L:List Bm.Stp)(r:Int×Int×Int)(bd:List Nat)(pos:Nat):Prop where
 all:Row W b0 108 vs
 rd:RS W br 0 bd pos
 row:Row W bl 118 (sqs L)
 Sq:Row W bc 154 [.int .i64 r.1,.int .i64 r.2.1,.int .i64 r.2.2]
 bel:Below w.heap.size w W
 low:w.heap.size≤b0∧b0<br∧br<bl∧bl<bc∧bc<W.heap.size
section
variable {w W W':World} {b0 br bl bc:Nat} {vs:List Value} {L:List Bm.Stp} {r:Int×Int×Int} {bd:List Nat} {pos:Nat}
theorem StO.below(h:StO w W b0 br bl bc vs L r bd pos)(hb:Below W.heap.size W W'):StO w W' b0 br bl bc vs L r bd pos:=by
 obtain⟨h1,h2,h3,h4,h5,h6⟩:=h;exact⟨h1.below hb,h2.below hb,h3.below hb,h4.below hb,h5.trans (hb.mono h5.size),by have:=hb.size;omega⟩
theorem StO.read(h:StO w W b0 br bl bc vs L r bd pos){p:Nat}(hg:W.grownBy W' (some br))(h2:RS W' br 0 bd p):StO w W' b0 br bl bc vs L r bd p:=by
 obtain⟨h1,_,h3,h4,h5,h6⟩:=h;refine⟨h1.keep (hg.block _ (by omega) (by simp;omega)),h2,h3.keep (hg.block _ (by omega) (by simp;omega)),h4.keep (hg.block _ (by omega) (by simp;omega)),h5.grown hg h5.size (fun x e=>by injection e with e;omega),by have:=hg.size;omega⟩
theorem StO.far(h:StO w W b0 br bl bc vs L r bd pos){p:Addr}(hp:bc<p.block)(u:Value):StO w (W.setCell p u) b0 br bl bc vs L r bd pos:=by
 obtain⟨h1,h2,h3,h4,h5,h6⟩:=h;refine⟨h1.far (by omega) u,h2.keep (dX W p u) (by simp;omega),h3.far (by omega) u,h4.far (by omega) u,h5.setCell (by omega) u,by simpa using h6⟩
theorem StO.put(h:StO w W b0 br bl bc vs L r bd pos){L':List Bm.Stp}(i:Nat)(x y z ra rb rc:Int)(hr:Row (((W.setCell ⟨bl,i,none⟩ (.int .i64 x)).setCell ⟨bl,i+1,none⟩ (.int .i64 y)).setCell ⟨bl,i+2,none⟩ (.int .i64 z)) bl 118 (sqs L')) :
  StO w ((((((W.setCell ⟨bl,i,none⟩ (.int .i64 x)).setCell ⟨bl,i+1,none⟩ (.int .i64 y)).setCell ⟨bl,i+2,none⟩ (.int .i64 z)).setCell ⟨bc,0,none⟩ (.int .i64 ra)).setCell ⟨bc,1,none⟩ (.int .i64 rb)).setCell ⟨bc,2,none⟩ (.int .i64 rc)).drew b0 br bl bc vs L' (ra,rb,rc) bd pos:=by
 obtain⟨h1,h2,h3,h4,h5,h6⟩:=h;have e1:∀(W:World) i u,Row W b0 108 vs→Row (W.setCell ⟨bl,i,none⟩ u) b0 108 vs:=fun W i u h=>h.far (by show b0≠bl;omega) u
 have e2:∀(W:World) i u,Row W b0 108 vs→Row (W.setCell ⟨bc,i,none⟩ u) b0 108 vs:=fun W i u h=>h.far (by show b0≠bc;omega) u
 have e3:∀(W:World) i u,RS W br 0 bd pos→RS (W.setCell ⟨bl,i,none⟩ u) br 0 bd pos:=fun W i u h=>h.keep (dX W ⟨bl,i,none⟩ u) (by simp;omega)
 have e4:∀(W:World) i u,RS W br 0 bd pos→RS (W.setCell ⟨bc,i,none⟩ u) br 0 bd pos:=fun W i u h=>h.keep (dX W ⟨bc,i,none⟩ u) (by simp;omega)
 have e5:∀(W:World) i u {cs},Row W bl 118 cs→Row (W.setCell ⟨bc,i,none⟩ u) bl 118 cs:=fun W i u cs h=>h.far (by show bl≠bc;omega) u
 have e6:∀(W:World) i u {cs},Row W bc 154 cs→Row (W.setCell ⟨bl,i,none⟩ u) bc 154 cs:=fun W i u cs h=>h.far (by show bc≠bl;omega) u
 have e7:∀(W:World) i u,Below w.heap.size w W→Below w.heap.size w (W.setCell ⟨bl,i,none⟩ u):=fun W i u h=>h.setCell (by show w.heap.size≤bl;omega) u
 have e8:∀(W:World) i u,Below w.heap.size w W→Below w.heap.size w (W.setCell ⟨bc,i,none⟩ u):=fun W i u h=>h.setCell (by show w.heap.size≤bc;omega) u
 have r4:=((e6 _ (i+2) (.int .i64 z) (e6 _ (i+1) (.int .i64 y) (e6 _ i (.int .i64 x) h4))).aW 0 (.int .i64 ra));have r5:=(r4.aW 1 (.int .i64 rb)).aW 2 (.int .i64 rc);simp only[List.set_cons_zero,List.set_cons_succ]at r5;have hs:((((((W.setCell ⟨bl,i,none⟩ (.int .i64 x)).setCell ⟨bl,i+1,none⟩ (.int .i64 y)).setCell ⟨bl,i+2,none⟩ (.int .i64 z)).setCell ⟨bc,0,none⟩ (.int .i64 ra)).setCell ⟨bc,1,none⟩ (.int .i64 rb)).setCell ⟨bc,2,none⟩ (.int .i64 rc)).heap.size=W.heap.size:=by simp[World.setCell]
 have q1:=e2 _ 2 (.int .i64 rc) (e2 _ 1 (.int .i64 rb) (e2 _ 0 (.int .i64 ra) (e1 _ (i+2) (.int .i64 z) (e1 _ (i+1) (.int .i64 y) (e1 _ i (.int .i64 x) h1)))));have q2:=e4 _ 2 (.int .i64 rc) (e4 _ 1 (.int .i64 rb) (e4 _ 0 (.int .i64 ra) (e3 _ (i+2) (.int .i64 z) (e3 _ (i+1) (.int .i64 y) (e3 _ i (.int .i64 x) h2)))));have q3:=e5 _ 2 (.int .i64 rc) (e5 _ 1 (.int .i64 rb) (e5 _ 0 (.int .i64 ra) hr));have q5:=e8 _ 2 (.int .i64 rc) (e8 _ 1 (.int .i64 rb) (e8 _ 0 (.int .i64 ra) (e7 _ (i+2) (.int .i64 z) (e7 _ (i+1) (.int .i64 y) (e7 _ i (.int .i64 x) h5)))));clear e1 e2 e3 e4 e5 e6 e7 e8 hr h1 h2 h3 h4 h5 r4;generalize (((((W.setCell ⟨bl,i,none⟩ (.int .i64 x)).setCell ⟨bl,i+1,none⟩ (.int .i64 y)).setCell ⟨bl,i+2,none⟩ (.int .i64 z)).setCell ⟨bc,0,none⟩ (.int .i64 ra)).setCell ⟨bc,1,none⟩ (.int .i64 rb)).setCell ⟨bc,2,none⟩ (.int .i64 rc)=X at *;exact StO.below ⟨q1,q2,q3,r5,q5,by rw[hs];exact h6⟩ (Below.refl _ _).drew
theorem StO.drew(h:StO w W b0 br bl bc vs L r bd pos):StO w W.drew b0 br bl bc vs L r bd pos:=h.below (Below.refl _ _).drew
end
namespace Bm
theorem abT(c V:Nat)(h:c<28):NI c V≤65535:=by
 unfold NI;split
 ·omega
 ·have h1:=Nat.mod_lt V (Nat.two_pow_pos (c-12));have h2:2^(c-12)≤2^15:=Nat.pow_le_pow_right (by omega) (by omega);have h3:(2:Nat)^15=32768:=by decide
  omega
theorem abV(a b c n x:Int)(h:xR a b c n=some x):1≤x∧x≤65533:=by
 obtain⟨h1,h2,h3⟩:=WX a b c n x h;exact Md a b c x (by omega)
def Kv(r:Int×Int×Int):Prop:=(1≤r.1∧r.1≤65533)∧(1≤r.2.1∧r.2.1≤65533)∧(1≤r.2.2∧r.2.2≤65533)
theorem Sr(r:Int×Int×Int)(x:Int)(h:Kv r)(hx:1≤x∧x≤65533):Kv (oz r.1 r.2.1 r.2.2 x):=by
 obtain⟨h1,h2,h3⟩:=h;unfold oz;split
 ·exact⟨hx,h2,h3⟩
 ·split
  ·exact⟨hx,h1,h3⟩
  ·exact⟨hx,h1,h2⟩
theorem SB(cs:List (List Nat))(n k:Nat)(h:k<n):(kU cs n).drop k=atD cs k :: (kU cs n).drop (k+1):=by
 have hl:k<(kU cs n).length:=by simpa [kU]using h
 rw[List.drop_eq_getElem_cons hl];simp[kU]
end Bm
theorem ZE{r:Int×Int×Int}(h:Kv r):lY r.1∧lY r.2.1∧lY r.2.2:=by
 obtain⟨h1,h2,h3⟩:=h;unfold lY;omega
def afC(xs:List Nat):List Value:=[.int .i64 ((xs[0]?.getD 0:Nat):Int),.int .i64 ((xs[1]?.getD 0:Nat):Int),.int .i64 ((xs[2]?.getD 0:Nat):Int)]
theorem Rn(xs:List Nat)(v:Nat)(h:xs.length<3):(afC xs).set xs.length (.int .i64 (v:Int))=afC (xs++[v]):=by
 match xs,h with
 | [],_=>rfl
 | [a],_=>rfl
 | [a,b],_=>rfl
theorem afK(D:List Bm.Stp)(m k:Nat)(h:D.length=k):(sqs (D++List.replicate (m+1) (0,0,0)))[k*3]?=some (.int .i64 0)∧(sqs (D++List.replicate (m+1) (0,0,0)))[k*3+1]?=some (.int .i64 0)∧(sqs (D++List.replicate (m+1) (0,0,0)))[k*3+2]?=some (.int .i64 0):=by
 have hl:k<(D++List.replicate (m+1) ((0,0,0):Bm.Stp)).length:=by rw[List.length_append,List.length_replicate];omega
 have h1:=Bl _ k hl;have e:(D++List.replicate (m+1) ((0,0,0):Bm.Stp))[k]=(0,0,0):=by
  rw[List.getElem_append_right (by omega),List.getElem_replicate]
 rw[e]at h1;exact h1
theorem acH(D:List Bm.Stp)(m k x y z:Nat)(h:D.length=k):(((sqs (D++List.replicate (m+1) (0,0,0))).set (k*3) (.int .i64 (x:Int))).set (k*3+1) (.int .i64 (y:Int))).set (k*3+2) (.int .i64 (z:Int))=sqs ((D++[(x,y,z)])++List.replicate m (0,0,0)):=by
 rw[acI _ k x y z (by rw[List.length_append,List.length_replicate];omega)];congr 1
 rw[List.set_append_right _ _ (by omega),h,Nat.sub_self,List.replicate_succ,List.set_cons_zero,List.append_assoc];rfl
theorem Mk(A0 A1 A2 B:Option Addr)(k0 k1 k2 cb n:Nat)(c0 c1 c2 bd:List Nat)(w:World)(hn:n≤1000)(h0:c0.length=n∧∀x∈c0,x<28)(h1:c1.length=n∧∀x∈c1,x<28)(h2:c2.length=n∧∀x∈c2,x<28)
  (hr0:Reads w A0 (u8s c0)) (hr1:Reads w A1 (u8s c1)) (hr2:Reads w A2 (u8s c2)) (hbl:bd.length≤4096) (hblt:∀x∈bd,x<256) (hrb:Reads w B (u8s bd)) :
  Calls prog 113 #[.agg #[.slice A0 n k0,.slice A1 n k1,.slice A2 n k2],.slice B bd.length cb,.int .i64 (n:Int)] w fun e w'=>aew w' e (kF [c0,c1,c2] n bd)∧Below w.heap.size w w':=by
 obtain⟨res,hres⟩:∃res,res=kF [c0,c1,c2] n bd:=⟨_,rfl⟩;rw[←hres];have dQ:=hid hres;obtain⟨W0,hW0⟩:∃W0,w.alloc (.cells #[.slice A0 n k0,.slice A1 n k1,.slice A2 n k2] 108)=W0:=⟨_,rfl⟩;have ra:=Row.new w 108 [.slice A0 n k0,.slice A1 n k1,.slice A2 n k2];have hb0:=(Below.refl w.heap.size w).alloc (Nat.le_refl _) (.cells #[.slice A0 n k0,.slice A1 n k1,.slice A2 n k2] 108);rw[show w.alloc (.cells [Value.slice A0 n k0,.slice A1 n k1,.slice A2 n k2].toArray 108)=W0 from hW0]at ra;have hsz0:W0.heap.size=w.heap.size+1:=by rw[←hW0];simp
 rw[hW0]at hb0;have xX:=hid (qb B cb bd W0 hblt (aC hrb hb0));have HW0:=hid hW0;have Hmk:=hid (fun W=>QZ n (by omega) W);have adU:=hid Dh;have Hra:=hid ra;have Hb0:=hid hb0;have aiR:=hid hsz0;have HR:=hid (⟨hr0,hr1,hr2⟩:_∧_∧_);have HC:=hid (⟨h0,h1,h2⟩:_∧_∧_);have YO:=hid hblt;clear hres hW0 ra hb0 hsz0 hr0 hr1 hr2 hrb h0 h1 h2 hblt;go_enter func113,ntmps113
 go_wp2_with fail
 rw[HW0.out];refine xX.out.mono ?_;rintro e w1 ⟨rfl,abp,hb1⟩;obtain⟨b0,hb0⟩:∃b0,w.heap.size=b0:=⟨_,rfl⟩;obtain⟨br,hbr⟩:∃br,W0.heap.size=br:=⟨_,rfl⟩;obtain⟨bl,ahw⟩:∃bl,w1.heap.size=bl:=⟨_,rfl⟩;have YV:=hid abp;have Hb1:=hid hb1;have He:=hid (⟨hb0,hbr,ahw⟩:_∧_∧_);have hmk:=Hmk.out w1;rw[ahw]at hmk;clear abp hb1 xX HW0 hb0 hbr ahw Hmk;go_wp2_with fail
 refine(adU.out _).mono ?_;rintro e w2 ⟨rfl,hb2⟩;obtain⟨bc,hbc⟩:∃bc,w2.heap.size=bc:=⟨_,rfl⟩;have hst:StO w (w2.alloc (.cells #[.int .i64 1,.int .i64 2,.int .i64 4] 154)) b0 br bl bc [.slice A0 n k0,.slice A1 n k1,.slice A2 n k2] (List.replicate n (0,0,0)) (1,2,4) bd 0:=by
  obtain⟨e0,er,el⟩:=He.out;have hs1:=Hb1.out.size;have hs2:=hb2.size;have hbx:=(Below.refl w1.heap.size w1).alloc (Nat.le_refl _) (.cells (sqs (List.replicate n (0,0,0))).toArray 118);have hby:Below w1.heap.size w1 w2:=hbx.trans (hb2.mono hbx.size);have hbz:=hby.alloc hby.size (.cells #[.int .i64 1,.int .i64 2,.int .i64 4] 154);have rl:=Row.new w1 118 (sqs (List.replicate n (0,0,0)));have rc:=Row.new w2 154 [.int .i64 1,.int .i64 2,.int .i64 4];rw[el]at rl;rw[hbc]at rc;have ra:=(Hra.out.below Hb1.out).below hbz;rw[e0]at ra;have rr:=YV.out.below hbz;rw[er]at rr;have hz:=aiR.out;rw[World.size_alloc]at hs2;refine⟨ra,rr,(rl.below hb2).alloc _,rc,(Hb0.out.trans (Hb1.out.mono Hb0.out.size)).trans (hbz.mono (by omega)),?_⟩;rw[World.size_alloc];have hlt1:=YV.out.2.2.2;rw[er]at hlt1;omega
 have Hst:=hid hst;have Hbc:=hid hbc;clear hb2 hst YV Hb1 Hra Hb0 hbc aiR hmk adU;go_wp2;rw[He.out.1,He.out.2.1,Hbc.out];generalize w2.alloc (.cells #[.int .i64 1,.int .i64 2,.int .i64 4] 154)=wA at *;clear He Hbc;have Hno:=hid (fun c q (W:World) (hc:c<28) (hp:q≤8*bd.length) (hle:8*bd.length-q<exK c) (h:RS W br 0 bd q)=>acs c br q bd W hc (by omega) hp hle h);have aeo:=hid (fun c q (W:World) (hc:c<28) (hle:q+exK c≤8*bd.length) (h:RS W br 0 bd q)=>Xn c br q bd W hc (by omega) YO.out hle h);have uS:=hid (fun q (W:World) (hp:q≤8*bd.length) (h:RS W br 0 bd q)=>Eu br q bd W (by omega) YO.out hp h);have lU:Hid (res=aaP (lM (kU [c0,c1,c2] n) (aS bd) (8*bd.length) (1,2,4))):=hid dQ.out;clear dQ;have hV0:aS bd=aS bd/2^0:=by rw[Nat.pow_zero,Nat.div_one]
 have HV0:=hid hV0;clear hV0 YO;generalize aS bd=V at *;generalize hL:8*bd.length=L at *;clear hL;go_loopw [11,12,13,14,15,16,17,18,19,27] (fun _ _ _ _ _ _ _ _ _ i wr=>∃(k pos:Nat) (D:List Bm.Stp) (r:Int×Int×Int),i=.int .i64 (k:Int)∧k≤n∧pos≤L∧Hid (D.length=k)∧Hid (Kv r) ∧
  Hid (StO w wr b0 br bl bc [.slice A0 n k0,.slice A1 n k1,.slice A2 n k2] (D++List.replicate (n-k) (0,0,0)) r bd pos) ∧
  Hid (res=aaP ((lM ((kU [c0,c1,c2] n).drop k) (V/2^pos) (L-pos) r).map fun q=>(D++q.1,q.2)))) (fun _ _ _ _ _ _ _ _ _ i _=>n-(intOf i).toNat)
 case atStart=>
  refine⟨0,0,[],(1,2,4),rfl,Nat.zero_le _,Nat.zero_le _,hid rfl,hid ⟨by decide,by decide,by decide⟩,Hst,hid ?_⟩;rw[lU.out,List.drop_zero,Nat.sub_zero,←HV0.out];cases lM (kU [c0,c1,c2] n) V L (1,2,4)<;>rfl
 case round=>
  obtain⟨k,pos,D,r,rfl,hk,hpos,hD,hr,hst,hres⟩:=hrel;clear Hst HV0 lU;by_cases hkn:k<n
  ·have dk:decide ((k:Int)<(n:Int))=true:=decide_eq_true (by omega);have UM:Hid ((kU [c0,c1,c2] n).drop k=atD [c0,c1,c2] k :: (kU [c0,c1,c2] n).drop (k+1)):=hid (SB _ n k hkn);have hsW:=hst.out.low;have hb1:wr.heap.size<wr.heap.size+1:=by omega
   have Zr:=hst.out.below ((Below.refl wr.heap.size wr).alloc (Nat.le_refl _) (.cells #[.int .i64 0,.int .i64 0,.int .i64 0] 30));have hrn:=Row.new wr 30 (afC []);obtain⟨bn,hbn⟩:∃bn,wr.heap.size=bn:=⟨_,rfl⟩;rw[hbn]at hrn hsW;have aai:=hid Zr;have Hrn:=hid hrn;have Hbn:=hid hbn;have alC:bc<bn:=by omega
   obtain⟨a0,a1,a2⟩:=fV Zr.all;clear Zr hrn hbn hb1 hst hsW;go_wp2;rw[Hbn.out];have e3:wr.alloc (.cells (afC []).toArray 30)=wr.alloc (.cells #[.int .i64 0,.int .i64 0,.int .i64 0] 30):=rfl;rw[e3]at Hrn;clear e3;generalize wr.alloc (.cells #[.int .i64 0,.int .i64 0,.int .i64 0] 30)=wB at *;clear Hbn a0 a1 a2;rename World=>wo
   go_loopw [13,14,15,16,31] (fun _ _ _ _ i wr=>∃(j q:Nat) (xs:List Nat),i=.int .i64 (j:Int)∧j≤3∧q≤L∧Hid (xs.length=j)∧Hid (∀x∈xs,x≤65535) ∧
    Hid (StO w wr b0 br bl bc [.slice A0 n k0,.slice A1 n k1,.slice A2 n k2] (D++List.replicate (n-k) (0,0,0)) r bd q)∧Hid (Row wr bn 30 (afC xs)) ∧
    Hid (oM (atD [c0,c1,c2] k) (V/2^pos) (L-pos)=(oM ((atD [c0,c1,c2] k).drop j) (V/2^q) (L-q)).map fun t=>(xs++t.1,t.2))) (fun _ _ _ _ i _=>3-(intOf i).toNat)
   case atStart=>
    refine⟨0,pos,[],rfl,by omega,hpos,hid rfl,hid (by simp),aai,Hrn,hid ?_⟩;rw[List.drop_zero];cases oM (atD [c0,c1,c2] k) (V/2^pos) (L-pos)<;>rfl
   case round=>
    obtain⟨j,q,xs,rfl,hj,hq,hxs,ags,hst,hrn,Qi⟩:=hrel;clear aai Hrn;by_cases hj3:j<3
    ·have key:∃(g off c:Nat) (kk:Nat) (A:Option Addr),Hid ([Value.slice A0 n k0,.slice A1 n k1,.slice A2 n k2][j]?=some (.slice A n kk))∧A=some ⟨g,off,none⟩∧wr.cell? ⟨g,off+k,none⟩=some (.int .u8 (c:Int))∧c<28∧Hid ((atD [c0,c1,c2] k).drop j=c :: (atD [c0,c1,c2] k).drop (j+1)):=by
      obtain⟨hc0,hc1,hc2⟩:=HC.out;obtain⟨r0,r1,r2⟩:=HR.out;have one:∀(A:Option Addr) (cs:List Nat),(cs.length=n∧∀x∈cs,x<28)→Reads w A (u8s cs)→∃g off,A=some ⟨g,off,none⟩∧∃c:Nat,wr.cell? ⟨g,off+k,none⟩=some (.int .u8 (c:Int))∧c<28∧cs[k]?.getD 0=c:=fun A cs h hr=>by
       have hkl:k<cs.length:=by omega
       obtain⟨g,off,e,hc⟩:=fT (aC hr hst.out.bel) (by intro e;rw[e]at hkl;simp at hkl);exact⟨g,off,e,cs[k],hc k hkl,h.2 _ (List.getElem_mem hkl),by rw[List.getElem?_eq_getElem hkl];rfl⟩
      rcases(by omega:j=0∨j=1∨j=2)with rfl | rfl | rfl
      ·obtain⟨g,off,e,c,h1,h2,h3⟩:=one A0 c0 hc0 r0;exact⟨g,off,c,k0,A0,rfl,e,h1,h2,hid (by simp only[atD,List.map_cons,List.map_nil,List.drop_succ_cons,List.drop_zero,h3])⟩
      ·obtain⟨g,off,e,c,h1,h2,h3⟩:=one A1 c1 hc1 r1;exact⟨g,off,c,k1,A1,rfl,e,h1,h2,hid (by simp only[atD,List.map_cons,List.map_nil,List.drop_succ_cons,List.drop_zero,h3])⟩
      ·obtain⟨g,off,e,c,h1,h2,h3⟩:=one A2 c2 hc2 r2;exact⟨g,off,c,k2,A2,rfl,e,h1,h2,hid (by simp only[atD,List.map_cons,List.map_nil,List.drop_succ_cons,List.drop_zero,h3])⟩
     obtain⟨g,off,c,kk,A,hidx,rfl,hcell,hc28,hdrop⟩:=key;have yA:=hid Qi.out;rw[hdrop.out,oM]at yA;have hidx2:∀W,(Instr.index 108 (.agg #[.slice A0 n k0,.slice A1 n k1,.slice A2 n k2]) (.int .i64 (j:Int))).run prog W=.ok (.slice (some ⟨g,off,none⟩) n kk) W:=fun W=>by
      have h:=hidx.out;rcases(by omega:j=0∨j=1∨j=2)with rfl | rfl | rfl
      all_goals
       simp only[List.getElem?_cons_zero,List.getElem?_cons_succ,Option.some.injEq]at h;rw[h];simp[Instr.index,run_underlying underlying108,asIntOf,go_sem]
     clear hidx Qi hdrop;by_cases hfit:q+exK c≤L
     ·rw[if_pos (by omega)]at yA;have bB:=hid (aeo.out c q wr hc28 hfit hst.out.rd);have hv:=abT c (V/2^q) hc28;rw[Nat.div_div_eq_div_mul,←Nat.pow_add,Nat.sub_sub]at yA;obtain⟨v,hvv⟩:∃v,v=NI c (V/2^q):=⟨_,rfl⟩;obtain⟨q2,hq2⟩:∃q2,q2=q+exK c:=⟨_,rfl⟩;rw[←hvv]at bB yA hv;rw[←hq2]at bB yA hfit;have lC:=hid (hst.out);have agR:=hid (hrn.out);clear hvv hq2 hst hrn Hno aeo;go_wp2_with fail
      refine bB.out.mono ?_;rintro e w3 ⟨rfl,Qm,hg3⟩;have Uw:=lC.out.read hg3 Qm;have hlow:=lC.out.low;have agr:=agR.out.keep (hg3.block bn agR.out.lt (by simp;omega));have lD:=Uw.far (p:=⟨bn,j,none⟩) alC (.int .i64 (v:Int));have ahH:=agr.aW j (.int .i64 (v:Int));rw[←hxs.out,Rn xs v (by rw[hxs.out];exact hj3),hxs.out]at ahH;have f0:=agr.free j;have hsome:∃u,w3.cell? ⟨bn,j,none⟩=some u:=by
       rw[agr.cell];rcases(by omega:j=0∨j=1∨j=2)with rfl | rfl | rfl<;>exact⟨_,rfl⟩
      obtain⟨u0,hu0⟩:=hsome;have uU:=hid lD;have ala:=hid ahH;have amE:(j:Int)<3:=by omega
      clear Qm hg3 Uw agr lD ahH lC agR hlow bB;go_wp2;go_roundw
      case rel=>
       refine⟨j+1,q2,xs++[v],by go_num,by omega,hfit,hid (by rw[List.length_append,hxs.out];rfl),hid (fun x hx=>?_),uU,ala,hid ?_⟩
       ·rcases List.mem_append.1 hx with hx | hx
        ·exact ags.out x hx
        ·rw[List.mem_singleton.1 hx];exact hv
       ·rw[yA.out];cases oM ((atD [c0,c1,c2] k).drop (j+1)) (V/2^q2) (L-q2)<;>simp
      case measure=>simp[intOf];omega
     ·rw[if_neg (by omega)]at yA;have bB:=hid (Hno.out c q wr hc28 hq (by omega) hst.out.rd);have gV:Hid (res=none):=hid (by rw[hres.out,UM.out,lM,yA.out];rfl);have lC:=hid (⟨hst.out.bel,hst.out.low⟩:_∧_);clear yA Hno aeo uS hfit hst hrn hres UM HC HR;go_wp2_with fail
      refine bB.out.mono ?_;rintro e w3 ⟨⟨v,rfl⟩,hg3⟩;have Hb3:=hid (lC.out.1.grown hg3 lC.out.1.size (fun x e=>by injection e with e;have:=lC.out.2;omega));clear hg3 bB;go_wp2;go_ret2;rw[gV.out];exact⟨⟨_,_,rfl⟩,Hb3.out⟩
    ·have abe:j=3:=by omega
     subst abe;have yA:=hid Qi.out;rw[show(atD [c0,c1,c2] k).drop 3=[]from rfl,oM,Option.map_some,List.append_nil]at yA;obtain⟨l,m,o,alZ⟩:∃l m o,xs=[l,m,o]:=by
      match xs,hxs.out with
      | [l,m,o],_=>exact⟨l,m,o,rfl⟩
     subst alZ;have hm:m≤65535:=ags.out m (by simp);have ho:o≤65535:=ags.out o (by simp);have ajU:Row wr bn 30 [.int .i64 (l:Int),.int .i64 (m:Int),.int .i64 (o:Int)]:=hrn.out;obtain⟨x0,x1,x2⟩:=fV ajU;obtain⟨y0,y1,y2⟩:=fV hst.out.Sq;obtain⟨hra,hrb,hrc⟩:=ZE hr.out;have xZ:=hid hres.out;rw[UM.out,lM,yA.out]at xZ;simp only[List.getElem?_cons_zero,List.getElem?_cons_succ,Option.getD_some]at xZ;have lC:=hid hst.out;clear hres yA Qi hrn ajU hst ags hxs Hno aeo UM;cases hoff:xR r.1 r.2.1 r.2.2 (o:Int)with
     | none=>
      rw[hoff]at xZ;have bB:=hid (fun W=>Xt W r.1 r.2.1 r.2.2 l m o hra hrb hrc hm ho hoff);have gV:Hid (res=none):=hid xZ.out;have adj:=hid (⟨lC.out.bel,lC.out.low⟩:_∧_);clear hoff xZ lC uS HC HR hra hrb hrc hr;generalize r.1=ra at *;generalize r.2.1=rb at *;generalize r.2.2=rc at *;generalize m+3=m3 at *;go_wp2_with fail
      refine(bB.out _).mono ?_;rintro e w3 ⟨rfl,hb3⟩;have Hb3:=hid ((((adj.out.1.trans (hb3.mono adj.out.1.size)).alloc (adj.out.1.trans (hb3.mono adj.out.1.size)).size (.cells #[.int .i64 (l:Int),.int .i64 (m3:Int),.int .i64 0] 118)).alloc (by have:=(adj.out.1.trans (hb3.mono adj.out.1.size)).size;simp;omega) (.cells #[.int .i64 ra,.int .i64 rb,.int .i64 rc] 154)));clear hb3 bB;go_wp2;go_ret2;rw[gV.out];exact⟨⟨_,_,rfl⟩,Hb3.out⟩
     | some x=>
      rw[hoff]at xZ;dsimp only at xZ;have hx:=abV _ _ _ _ _ hoff;have bB:=hid (fun W=>Sd W r.1 r.2.1 r.2.2 x l m o hra hrb hrc hm ho hoff);have aei:=hid (Sr r x hr.out hx);obtain⟨⟨ra,rb,rc⟩,hr2⟩:∃r2,r2=oz r.1 r.2.1 r.2.2 x:=⟨_,rfl⟩;rw[←hr2]at bB aei xZ;dsimp only at bB;clear hoff hr2 hra hrb hrc hr;obtain⟨x',rfl⟩:∃x':Nat,x=(x':Int):=⟨x.toNat,by omega⟩;rw[Int.toNat_natCast]at xZ;have hlow:=lC.out.low;go_wp2_with fail
      refine(bB.out _).mono ?_;rintro e w3 ⟨rfl,hb3⟩;have Uw:=lC.out.below hb3;obtain⟨bs,hbs⟩:∃bs,w3.heap.size=bs:=⟨_,rfl⟩;obtain⟨bt,hbt⟩:∃bt,w3.heap.size+1=bt:=⟨_,rfl⟩;have abh:=Uw.low;have rs:=(Row.new w3 118 [.int .i64 (l:Int),.int .i64 ((m+3:Nat):Int),.int .i64 (x':Int)]).alloc (.cells #[.int .i64 ra,.int .i64 rb,.int .i64 rc] 154);have rt:=Row.new (w3.alloc (.cells #[.int .i64 (l:Int),.int .i64 ((m+3:Nat):Int),.int .i64 (x':Int)] 118)) 154 [.int .i64 ra,.int .i64 rb,.int .i64 rc];rw[World.size_alloc,hbt]at rt;rw[hbs]at rs;have lD:=(Uw.below ((Below.refl w3.heap.size w3).alloc (Nat.le_refl _) (.cells #[.int .i64 (l:Int),.int .i64 ((m+3:Nat):Int),.int .i64 (x':Int)] 118))).below ((Below.refl _ (w3.alloc (.cells #[.int .i64 (l:Int),.int .i64 ((m+3:Nat):Int),.int .i64 (x':Int)] 118))).alloc (Nat.le_refl _) (.cells #[.int .i64 ra,.int .i64 rb,.int .i64 rc] 154));have uU:=hid lD;have Hrs:=hid rs;have Hrt:=hid rt;have Hbs:=hid hbs;have Hbt:=hid hbt;have hlt:bc<bs∧bc<bt:=by omega
      clear hb3 Uw lD rs rt hbs hbt abh bB lC x0 x1 x2 y0 y1 y2;generalize m+3=m3 at *;obtain⟨d,hd⟩:∃d,n-k=d+1:=⟨n-k-1,by omega⟩;rw[hd]at uU;have Hd:=hid (show n-(k+1)=d by omega);clear hd;go_wp2_with fail
      rw[Hbt.out,Hbs.out];obtain⟨x0,x1,x2⟩:=fV Hrs.out;obtain⟨x3,x4,x5⟩:=fV Hrt.out;obtain⟨y0,y1,y2⟩:=fV uU.out.Sq;have g0:=uU.out.Sq.free 0;have g1:=uU.out.Sq.free 1;have g2:=uU.out.Sq.free 2;obtain⟨z0,z1,z2⟩:=afK D d k hD.out;have v0:=(uU.out.row.cell (k*3)).trans z0;have v1:=(uU.out.row.cell (k*3+1)).trans z1;have v2:=(uU.out.row.cell (k*3+2)).trans z2;have q0:=uU.out.row.free (k*3);have q1:=uU.out.row.free (k*3+1);have q2':=uU.out.row.free (k*3+2);have ahA:=uU.out.low;have n1:bs≠bl:=by omega
      have n2:bs≠bc:=by omega
      have n3:bt≠bl:=by omega
      have n4:bt≠bc:=by omega
      have n5:bl≠bc:=by omega
      have n6:bc≠bl:=by omega
      generalize (w3.alloc (.cells #[.int .i64 (l:Int),.int .i64 (m3:Int),.int .i64 (x':Int)] 118)).alloc (.cells #[.int .i64 ra,.int .i64 rb,.int .i64 rc] 154)=wD at *;have hput:=acH D d k l m3 x' hD.out;have hrow2:=((uU.out.row.aW (k*3) (.int .i64 (l:Int))).aW (k*3+1) (.int .i64 (m3:Int))).aW (k*3+2) (.int .i64 (x':Int));rw[hput]at hrow2;have dJ:=hid hrow2;clear z0 z1 z2 Hrs Hrt Hbs Hbt hput hrow2;go_region
      have adv:=uU.out.put (k*3) l m3 x' ra rb rc dJ.out;have aaj:=hid adv;clear adv dJ uU x0 x1 x2 x3 x4 x5 y0 y1 y2 v0 v1 v2 q0 q1 q2' g0 g1 g2 ahA;generalize (((((wD.setCell ⟨bl,k*3,none⟩ (.int .i64 (l:Int))).setCell ⟨bl,k*3+1,none⟩ (.int .i64 (m3:Int))).setCell ⟨bl,k*3+2,none⟩ (.int .i64 (x':Int))).setCell ⟨bc,0,none⟩ (.int .i64 ra)).setCell ⟨bc,1,none⟩ (.int .i64 rb)).setCell ⟨bc,2,none⟩ (.int .i64 rc)=wE at *;generalize wE.drew=wF at *;go_wp2;go_roundw
      case rel=>
       refine⟨k+1,q,D++[(l,m3,x')],(ra,rb,rc),by go_num,by omega,hq,hid (by rw[List.length_append,hD.out];rfl),aei,by rw[Hd.out];exact aaj,hid ?_⟩;rw[xZ.out];cases lM ((kU [c0,c1,c2] n).drop (k+1)) (V/2^q) (L-q) (ra,rb,rc)<;>simp
      case measure=>simp[intOf];omega
  ·have hkn':k=n:=by omega
   subst hkn';have dk:decide ((k:Int)<(k:Int))=false:=decide_eq_false (by omega);have Hr2:=hid hres.out;rw[show(kU [c0,c1,c2] k).drop k=[]from List.drop_of_length_le (by simp[kU]),lM,Option.map_some,List.append_nil]at Hr2;unfold aaP at Hr2;dsimp only at Hr2;have bB:=hid (uS.out pos wr hpos hst.out.rd);have lC:=hid hst.out;rw[Nat.sub_self,List.replicate_zero,List.append_nil]at lC;clear hres hst Hno aeo uS HC HR hr;by_cases hend:L-pos<8∧V/2^pos=0
   ·rw[if_pos hend]at Hr2;rw[decide_eq_true hend]at bB;clear hend;go_wp2_with fail
    refine bB.out.mono ?_;rintro e w3 ⟨rfl,hg3⟩;have hlow:=lC.out.low;have hrow:=lC.out.row.keep (hg3.block bl lC.out.row.lt (by simp;omega));have Hb3:=hid (lC.out.bel.grown hg3 lC.out.bel.size (fun x e=>by injection e with e;omega));have Hrd:Hid (BL w3 (some ⟨bl,0,none⟩) D):=hid (fun _=>⟨bl,0,rfl,hrow.lt,fun j hj=>by
     obtain⟨s0,s1,s2⟩:=Bl D j hj;rw[Nat.zero_add,hrow.cell,hrow.cell,hrow.cell];exact⟨s0,s1,s2⟩⟩)
    clear hg3 hrow bB lC hlow;go_wp2;go_ret2;rw[Hr2.out];exact⟨⟨some ⟨bl,0,none⟩,k,by rw[hD.out];rfl,Hrd.out⟩,Hb3.out⟩
   ·rw[if_neg hend]at Hr2;rw[decide_eq_false hend]at bB;clear hend;go_wp2_with fail
    refine bB.out.mono ?_;rintro e w3 ⟨rfl,hg3⟩;have hlow:=lC.out.low;have Hb3:=hid (lC.out.bel.grown hg3 lC.out.bel.size (fun x e=>by injection e with e;omega));clear hg3 bB lC hlow;go_wp2;go_ret2;rw[Hr2.out];exact⟨⟨_,_,rfl⟩,Hb3.out⟩
namespace Bm
def xL(N:List (List Nat))(vs:List Nat)(j:Nat):List Nat:=cZ j N++(vs[j]?).toList.map kM
theorem Va(N:List (List Nat))(j:Nat):xL N [] j=cZ j N:=by simp[xL]
theorem Od(N:List (List Nat))(vs:List Nat):xL N vs vs.length=cZ vs.length N:=by simp[xL]
theorem Oe(N:List (List Nat))(vs:List Nat)(v:Nat):xL N (vs++[v]) vs.length=xL N vs vs.length++[kM v]:=by
 rw[Od];simp[xL]
theorem Kw(N:List (List Nat))(vs:List Nat)(v:Nat)(j:Nat)(h:j≠vs.length):xL N (vs++[v]) j=xL N vs j:=by
 unfold xL;rcases Nat.lt_or_ge j vs.length with h1 | h1
 ·rw[List.getElem?_append_left h1]
 ·rw[List.getElem?_eq_none (by rw[List.length_append,List.length_singleton];omega),List.getElem?_eq_none h1]
theorem UY(N:List (List Nat))(vs:List Nat)(j:Nat)(h:j<vs.length):xL N vs j=cZ j (N++[vs]):=by
 unfold xL cZ;rw[List.getElem?_eq_getElem h,List.map_append];simp[h]
theorem UZ(N:List (List Nat))(vs:List Nat)(j:Nat):(xL N vs j).length≤N.length+1:=by
 unfold xL cZ;rw[List.length_append,List.length_map,List.length_map];cases vs[j]?<;>simp
theorem YD(m:Int)(h:-9223372036854775808≤m∧m≤9223372036854775807):-9223372036854775808≤IntKind.i64.wrap (m-3)∧IntKind.i64.wrap (m-3)≤9223372036854775807:=by
 by_cases h1:-9223372036854775808≤m-3
 ·rw[IntWalk.i64_in _ (by omega)];omega
 ·have:m=-9223372036854775808∨m=-9223372036854775807∨m=-9223372036854775806:=by omega
  rcases this with rfl | rfl | rfl<;>decide
theorem aib(m:Int)(h:-9223372036854775808≤m∧m≤9223372036854775807):(3≤m∧m≤65538→IntKind.i64.wrap (m-3)=m-3)∧(0≤IntKind.i64.wrap (m-3)∧IntKind.i64.wrap (m-3)≤65535→3≤m∧m≤65538):=by
 refine⟨fun hm=>IntWalk.i64_in _ (by omega),fun hw=>?_⟩;by_cases h1:-9223372036854775808≤m-3
 ·rw[IntWalk.i64_in _ (by omega)]at hw;omega
 ·exfalso
  have:m=-9223372036854775808∨m=-9223372036854775807∨m=-9223372036854775806:=by omega
  rcases this with rfl | rfl | rfl
  ·have e:IntKind.i64.wrap (-9223372036854775808-3)=9223372036854775805:=by decide
   rw[e]at hw;omega
  ·have e:IntKind.i64.wrap (-9223372036854775807-3)=9223372036854775806:=by decide
   rw[e]at hw;omega
  ·have e:IntKind.i64.wrap (-9223372036854775806-3)=9223372036854775807:=by decide
   rw[e]at hw;omega
end Bm
theorem xV.congr{w:World}{base:Nat}{vs:List Value}{L L':Nat→List Nat}(h:xV w base vs L)(hL:∀s,s<vs.length→L' s=L s):xV w base vs L':=
 ⟨fun s v hv=>by rw[hL s (List.getElem?_eq_some_iff.1 hv).1];exact h.own s v hv,h.apart⟩
structure CoO(w W:World)(B b2 b5 b6 b7:Nat)(us:List Value)(P:Nat→List Nat)(F:List Nat)(r:Int×Int×Int):Prop where
 res:Row W b2 108 [.slice none 0 0,.slice none 0 0,.slice none 0 0]
 all:Row W b5 108 us
 len:us.length=3
 fam:xV W B us P
 wr:WS W b6 0 (bG F).1 (bG F).2
 Sq:Row W b7 154 [.int .i64 r.1,.int .i64 r.2.1,.int .i64 r.2.2]
 bel:Below w.heap.size w W
 low:w.heap.size≤b2∧b2<b5∧b5<b6∧b6<b7∧b7<B∧B≤W.heap.size
section
variable {w W W':World} {B b2 b5 b6 b7:Nat} {us:List Value} {P:Nat→List Nat} {F:List Nat} {r:Int×Int×Int}
theorem CoO.below(h:CoO w W B b2 b5 b6 b7 us P F r)(hb:Below W.heap.size W W'):CoO w W' B b2 b5 b6 b7 us P F r:=by
 obtain⟨h1,h2,h3,h4,h5,h6,h7,h8⟩:=h;exact⟨h1.below hb,h2.below hb,h3,h4.below hb,h5.below hb,h6.below hb,h7.trans (hb.mono h7.size),by have:=hb.size;omega⟩
theorem CoO.congr(h:CoO w W B b2 b5 b6 b7 us P F r){P':Nat→List Nat}(hP:∀s,s<3→P' s=P s):CoO w W B b2 b5 b6 b7 us P' F r:=by
 obtain⟨h1,h2,h3,h4,h5,h6,h7,h8⟩:=h;exact⟨h1,h2,h3,h4.congr (fun s hs=>hP s (by omega)),h5,h6,h7,h8⟩
theorem CoO.put(h:CoO w W B b2 b5 b6 b7 us P F r){F':List Nat}(hg:W.grownBy W' (some b6))(hw:WS W' b6 0 (bG F').1 (bG F').2):CoO w W' B b2 b5 b6 b7 us P F' r:=by
 obtain⟨h1,h2,h3,h4,_,h6,h7,h8⟩:=h;refine⟨h1.keep (hg.block _ (by omega) (by simp;omega)),h2.keep (hg.block _ (by omega) (by simp;omega)),h3,⟨fun s v hv=>(h4.own s v hv).kept hg ?_,h4.apart⟩,hw,h6.keep (hg.block _ (by omega) (by simp;omega)),h7.grown hg h7.size (fun x e=>by injection e with e;omega),by have:=hg.size;omega⟩;rcases hq:v.ownBlock with _ | q
 ·exact .inl rfl
 ·have:=((h4.own s v hv).lt q hq).1;exact .inr (by simp;omega)
theorem CoO.turn(h:CoO w W B b2 b5 b6 b7 us P F r)(a b c:Int):CoO w (((W.setCell ⟨b7,0,none⟩ (.int .i64 a)).setCell ⟨b7,1,none⟩ (.int .i64 b)).setCell ⟨b7,2,none⟩ (.int .i64 c)) B b2 b5 b6 b7 us P F (a,b,c):=by
 obtain⟨h1,h2,h3,h4,h5,h6,h7,h8⟩:=h;have e1:∀(W:World) i u {t cs},Row W b2 t cs→Row (W.setCell ⟨b7,i,none⟩ u) b2 t cs:=fun W i u t cs h=>h.far (by show b2≠b7;omega) u
 have e2:∀(W:World) i u {t cs},Row W b5 t cs→Row (W.setCell ⟨b7,i,none⟩ u) b5 t cs:=fun W i u t cs h=>h.far (by show b5≠b7;omega) u
 have e3:∀(W:World) i u,uW W b7 192→WS W b6 0 (bG F).1 (bG F).2→WS (W.setCell ⟨b7,i,none⟩ u) b6 0 (bG F).1 (bG F).2:=fun W i u hn h=>h.keep (dX W ⟨b7,i,none⟩ u) (by simp;omega) (fun g e=>by injection e with e;rw[←e];exact hn)
 have hn0:=h6.Jw (u:=192) (by decide);have hn1:=hn0.setCell ⟨b7,0,none⟩ (.int .i64 a);have hn2:=hn1.setCell ⟨b7,1,none⟩ (.int .i64 b);have e4:∀(W:World) i u,xV W B us P→xV (W.setCell ⟨b7,i,none⟩ u) B us P:=fun W i u h=>h.far (fun s v hv e=>by have:=((h.own s v hv).lt _ e).1;dsimp only at this;omega) u
 have r4:=((h6.aW 0 (.int .i64 a)).aW 1 (.int .i64 b)).aW 2 (.int .i64 c);simp only[List.set_cons_zero,List.set_cons_succ]at r4;have q1:=e1 _ 2 (.int .i64 c) (e1 _ 1 (.int .i64 b) (e1 _ 0 (.int .i64 a) h1));have q2:=e2 _ 2 (.int .i64 c) (e2 _ 1 (.int .i64 b) (e2 _ 0 (.int .i64 a) h2));have q3:=e3 _ 2 (.int .i64 c) hn2 (e3 _ 1 (.int .i64 b) hn1 (e3 _ 0 (.int .i64 a) hn0 h5));have q4:=e4 _ 2 (.int .i64 c) (e4 _ 1 (.int .i64 b) (e4 _ 0 (.int .i64 a) h4));have q5:=((h7.setCell (p:=⟨b7,0,none⟩) (by show w.heap.size≤b7;omega) (.int .i64 a)).setCell (p:=⟨b7,1,none⟩) (by show w.heap.size≤b7;omega) (.int .i64 b)).setCell (p:=⟨b7,2,none⟩) (by show w.heap.size≤b7;omega) (.int .i64 c);exact⟨q1,q2,h3,q4,q3,r4,q5,by simpa [World.setCell]using h8⟩
theorem CoO.app(h:CoO w W B b2 b5 b6 b7 us P F r){P':Nat→List Nat}{j:Nat}{u:Value}(hu:us[j]?=some u){g n cap:Nat}(hg:W.grownBy W' u.ownBlock)(hat:u.ownBlock=some g∨g=W.heap.size)
  (hown:W'.ownsRow B 5 1 (.slice (some ⟨g,0,none⟩) n cap) n (u8s (P' j))) (hn:(P' j).length=n) (hL:∀t,t≠j→P' t=P t) :
  CoO w (W'.setCell ⟨b5,j,none⟩ (.slice (some ⟨g,0,none⟩) n cap)) B b2 b5 b6 b7 (us.set j (.slice (some ⟨g,0,none⟩) n cap)) P' F r:=by
 obtain⟨h1,h2,h3,h4,h5,h6,h7,h8⟩:=h;have hlo:∀q,u.ownBlock=some q→B≤q∧q<W.heap.size:=fun q e=>(h4.own j u hu).lt q e
 have hne:∀b,b<B→u.ownBlock≠some b:=fun b hb e=>by have:=(hlo b e).1;omega
 have k1:=(h1.keep (hg.block _ (by omega) (fun e=>hne b2 (by omega) e.symm))).far (p:=⟨b5,j,none⟩) (by show b2≠b5;omega) (.slice (some ⟨g,0,none⟩) n cap);have k2:=(h2.keep (hg.block _ (by omega) (fun e=>hne b5 (by omega) e.symm))).aW j (.slice (some ⟨g,0,none⟩) n cap);have k2':=(h2.keep (hg.block _ (by omega) (fun e=>hne b5 (by omega) e.symm))).Jw (u:=192) (by decide);have k4:=xV.push (L':=P') h4 hu hg hat hown hn hL;have k5:WS W' b6 0 (bG F).1 (bG F).2:=h5.keep hg (hne b6 (by omega)) (fun q e=>by
  obtain⟨c,fz,hk⟩:=Lib.ownsRow_kind (h4.own j u hu) q e;exact⟨c,5,fz,hk,by decide⟩)
 have k5':=k5.keep (dX W' ⟨b5,j,none⟩ (.slice (some ⟨g,0,none⟩) n cap)) (by simp;omega) (fun q e=>by injection e with e;rw[←e];exact k2');have k6:=(h6.keep (hg.block _ (by omega) (fun e=>hne b7 (by omega) e.symm))).far (p:=⟨b5,j,none⟩) (by show b7≠b5;omega) (.slice (some ⟨g,0,none⟩) n cap);have k7:=(h7.grown hg h7.size (fun q e=>by have:=(hlo q e).1;omega)).setCell (p:=⟨b5,j,none⟩) (by show w.heap.size≤b5;omega) (.slice (some ⟨g,0,none⟩) n cap);have k4':=k4.far (p:=⟨b5,j,none⟩) (fun s v hv e=>by have:=((k4.own s v hv).lt _ e).1;dsimp only at this;omega) (.slice (some ⟨g,0,none⟩) n cap);exact⟨k1,k2,by rw[List.length_set];exact h3,k4',k5',k6,k7,by have:=hg.size;simpa [World.setCell]using (by omega:w.heap.size≤b2∧b2<b5∧b5<b6∧b6<b7∧b7<B∧B≤W'.heap.size)⟩
end
namespace Bm
theorem ZC:∀(l:List StZ) (r:Int×Int×Int),Kv r→(∀s∈l,Ew s)→Kv (Bf r l)
 | [],_,h,_=>h
 | s :: l,r,h,hm=>by
  have hs:=hm s List.mem_cons_self;rw[Bf];exact ZC l _ (Sr r s.2.2 h ⟨hs.2.2.2.2.1,hs.2.2.2.2.2⟩) (fun x hx=>hm x (List.mem_cons_of_mem _ hx))
end Bm
theorem TR(w:World)(t0 t1 t2:TypeId)(l0 l1 l2:List Value):∃W b0 b1 b2,((w.alloc (.cells l0.toArray t0)).alloc (.cells l1.toArray t1)).alloc (.cells l2.toArray t2)=W ∧
  w.heap.size=b0∧w.heap.size+1=b1∧w.heap.size+1+1=b2∧W.heap.size=b2+1∧Row W b0 t0 l0∧Row W b1 t1 l1∧Row W b2 t2 l2∧Below w.heap.size w W:=by
 have h0:=Row.new w t0 l0;have h1:=Row.new (w.alloc (.cells l0.toArray t0)) t1 l1;have h2:=Row.new ((w.alloc (.cells l0.toArray t0)).alloc (.cells l1.toArray t1)) t2 l2;have k1:(w.alloc (.cells l0.toArray t0)).heap.size=w.heap.size+1:=by simp
 have k2:((w.alloc (.cells l0.toArray t0)).alloc (.cells l1.toArray t1)).heap.size=w.heap.size+1+1:=by simp
 rw[k1]at h1;rw[k2]at h2;exact⟨_,_,_,_,rfl,rfl,rfl,rfl,by simp,(h0.alloc _).alloc _,h1.alloc _,h2,
  (((Below.refl w.heap.size w).alloc (Nat.le_refl _) _).alloc (by simp) _).alloc (by simp;omega) _⟩
theorem Qs(x y z:Int)(W:World):(Instr.index 30 (.agg #[.int .i64 x,.int .i64 y,.int .i64 z]) (.int .i64 0)).run prog W=.ok (.int .i64 x) W ∧
  (Instr.index 30 (.agg #[.int .i64 x,.int .i64 y,.int .i64 z]) (.int .i64 1)).run prog W=.ok (.int .i64 y) W∧(Instr.index 30 (.agg #[.int .i64 x,.int .i64 y,.int .i64 z]) (.int .i64 2)).run prog W=.ok (.int .i64 z) W:=by
 refine⟨?_,?_,?_⟩
 all_goals
  simp[Instr.index,run_underlying underlying30,asIntOf,go_sem]
theorem Qt(x y z u:Int)(j:Nat)(h:[x,y,z][j]?=some u)(W:World):(Instr.index 30 (.agg #[.int .i64 x,.int .i64 y,.int .i64 z]) (.int .i64 (j:Int))).run prog W=.ok (.int .i64 u) W:=by
 obtain⟨h0,h1,h2⟩:=Qs x y z W;match j,h with
 | 0,h=>simp at h;subst h;exact h0
 | 1,h=>simp at h;subst h;exact h1
 | 2,h=>simp at h;subst h;exact h2
theorem uM(b v:Nat)(F:List Nat)(W:World)(hv:v≤65535)(hF:∀x∈F,x≤65535)(hl:F.length≤10000)(h:WS W b 0 (bG F).1 (bG F).2) :
  Calls prog 99 #[.pointer (some ⟨b,0,none⟩),.int .u32 (kr v:Int),.int .i64 (gu v:Int)] W fun e w'=>e=.returned (.bool true)∧WS w' b 0 (bG (F++[v])).1 (bG (F++[v])).2∧W.grownBy w' (some b):=by
 obtain⟨_,h2,h3,_⟩:=mD v hv;have h4:=uq F hF;have h1:=qm b 0 (bG F).1 (bG F).2 (kr v) (gu v) W (by omega) (by omega) (by omega) h;rw[Nat.mod_eq_of_lt (FV v)]at h1;rw[yF];exact h1
def lT(w':World)(e:Ending)(l:List StZ):Prop:=
 if ∀s∈l,Ew s then ∃A0 k0 A1 k1 A2 k2 A k,e=.returned (.tuple #[.agg #[.slice A0 l.length k0,.slice A1 l.length k1,.slice A2 l.length k2],.slice A (dK (aP (1,2,4) l)).length k,.bool true]) ∧
  l.length≤k0∧l.length≤k1∧l.length≤k2∧Reads w' A0 (u8s (cZ 0 (aP (1,2,4) l)))∧Reads w' A1 (u8s (cZ 1 (aP (1,2,4) l)))∧Reads w' A2 (u8s (cZ 2 (aP (1,2,4) l)))∧Reads w' A (u8s (dK (aP (1,2,4) l)))
 else e=.returned (.tuple #[.agg #[.slice none 0 0,.slice none 0 0,.slice none 0 0],.slice none 0 0,.bool false])
theorem Mi(A:Option Addr)(c:Nat)(l:List StZ)(w:World)(hl:l.length≤700)(hok:ZOk l)(hr:Uu w A l) :
  Calls prog 61 #[.slice A l.length c] w fun e w'=>lT w' e l∧Below w.heap.size w w':=by
 obtain⟨i0,hi,hy0,hy1,hy2⟩:=info_parts jc;obtain⟨Pst,PV⟩:∃Pst:World→Ending→Prop,Pst=fun w' e=>lT w' e l:=⟨_,rfl⟩
 have YM:=hid PV;have hgoal:(fun(e:Ending) (w':World)=>lT w' e l∧Below w.heap.size w w')=fun e w'=>Pst w' e∧Below w.heap.size w w':=by rw[PV]
 rw[hgoal];clear hgoal PV;have Hr:=hid hr;have Hok:=hid hok;have adU:=hid Dh;have Hcy:=hid (fun(v:Nat) (h:v≤65535) (W:World)=>Jh.1 W v h);have Hcn:=hid (fun(z:Int) (h0:lY z) (h:z<0∨65535<z) (W:World)=>Jh.2 W z h0 h);clear hr hok;go_enter func61,ntmps61
 go_wp2_with fail
 obtain⟨W3,b2,b5,b6,hW3,e2,e5,e6,es,r2,r5,r6,Lg⟩:=TR w 108 108 153 [.slice none 0 0,.slice none 0 0,.slice none 0 0] [.slice none 0 0,.slice none 0 0,.slice none 0 0] [.pointer none,.int .u64 0,.int .i64 0];have hws:WS W3 b6 0 0 0:=by
  have h:=WS.new ((w.alloc (.cells #[.slice none 0 0,.slice none 0 0,.slice none 0 0] 108)).alloc (.cells #[.slice none 0 0,.slice none 0 0,.slice none 0 0] 108)) 153 (by decide);rw[hW3]at h;rw[←e6];have hs:((w.alloc (.cells #[.slice none 0 0,.slice none 0 0,.slice none 0 0] 108)).alloc (.cells #[.slice none 0 0,.slice none 0 0,.slice none 0 0] 108)).heap.size=w.heap.size+1+1:=by simp
  rw[hs]at h;exact h
 rw[hW3,e6,e5,e2];refine(adU.out _).mono ?_;rintro e w2 ⟨rfl,hb2⟩;obtain⟨b7,hb7⟩:∃b7,w2.heap.size=b7:=⟨_,rfl⟩;obtain⟨B,hB⟩:∃B,b7+1=B:=⟨_,rfl⟩;have hal:=(Below.refl w2.heap.size w2).alloc (Nat.le_refl _) (.cells #[.int .i64 1,.int .i64 2,.int .i64 4] 154);have r7:=Row.new w2 154 [.int .i64 1,.int .i64 2,.int .i64 4];rw[hb7]at r7;have hst:CoO w (w2.alloc (.cells #[.int .i64 1,.int .i64 2,.int .i64 4] 154)) B b2 b5 b6 b7 (List.replicate 3 (.slice none 0 0)) (fun j=>cZ j []) [] (1,2,4):=by
  have hs2:=hb2.size;refine⟨(r2.below hb2).below hal,(r5.below hb2).below hal,rfl,xV.ahU _ _ _ (fun s=>by simp[cZ]),(hws.below hb2).below hal,r7,?_,?_⟩
  ·exact(Lg.trans (hb2.mono (by omega))).trans (hal.mono (by omega))
  ·rw[World.size_alloc];omega
 have Hst:=hid hst;have Hb7:=hid hb7;clear hb2 hal r7 hst hb7 r2 r5 r6 hws Lg hW3 e2 e5 e6 es adU hB;go_wp2;rw[Hb7.out];generalize w2.alloc (.cells #[.int .i64 1,.int .i64 2,.int .i64 4] 154)=wA at *;clear Hb7;obtain⟨n,hn⟩:∃n,n=l.length:=⟨_,rfl⟩;have Hn:=hid hn;rw[←hn]at hl ⊢;clear hn;go_loopw [9,10,11,12,13,14,15,16,17,18,22] (fun _ _ _ _ _ _ _ _ _ _ i wr=>∃(k:Nat) (us:List Value),i=.int .i64 (k:Int)∧k≤n∧Hid (∀s∈l.take k,Ew s) ∧
  Hid (CoO w wr B b2 b5 b6 b7 us (fun j=>cZ j (aP (1,2,4) (l.take k))) (aP (1,2,4) (l.take k)).flatten (Bf (1,2,4) (l.take k)))) (fun _ _ _ _ _ _ _ _ _ _ i _=>n-(intOf i).toNat)
 case atStart=>exact⟨0,_,rfl,Nat.zero_le _,hid (by simp),Hst⟩
 case round=>
  obtain⟨k,us,rfl,hk,hall,hst⟩:=hrel;clear Hst;by_cases hkn:k<n
  ·have dk:decide ((k:Int)<(n:Int))=true:=decide_eq_true (by omega);have hkl:k<l.length:=by rw[←Hn.out];exact hkn
   obtain⟨g,off,rfl,hg,hc⟩:=(Hr.out.below hst.out.bel) (by omega);obtain⟨c0,c1,c2⟩:=hc k hkl;obtain⟨x,m,o,hs⟩:∃x m o,l[k]=(x,m,o):=⟨_,_,_,rfl⟩;have Hs:=hid hs;obtain⟨ox,om,oo⟩:=Hok.out l[k] (List.getElem_mem hkl);rw[hs]at c0 c1 c2 ox om oo;simp only at c0 c1 c2 ox om oo;have Htk:Hid (l.take (k+1)=l.take k++[(x,m,o)]):=hid (by rw[List.take_add_one,List.getElem?_eq_getElem hkl,hs];rfl);have Zr:=hst.out.below ((Below.refl wr.heap.size wr).alloc (Nat.le_refl _) (.cells #[.int .i64 x,.int .i64 m,.int .i64 o] 118));obtain⟨y0,y1,y2⟩:=fV Zr.Sq;have ahG:=ZC (l.take k) (1,2,4) ⟨by decide,by decide,by decide⟩ hall.out;obtain⟨hra,hrb,hrc⟩:=ZE ahG;obtain⟨N,hN⟩:∃N,N=aP (1,2,4) (l.take k):=⟨_,rfl⟩;have HN:=hid hN;have HN2:Hid (aP (1,2,4) (l.take (k+1))=N++[kJ (Bf (1,2,4) (l.take k)) (x,m,o)]∧Bf (1,2,4) (l.take (k+1))=oz (Bf (1,2,4) (l.take k)).1 (Bf (1,2,4) (l.take k)).2.1 (Bf (1,2,4) (l.take k)).2.2 o):=hid (by rw[Htk.out,zn,DV,hN];exact⟨rfl,rfl⟩);rw[←hN]at Zr;generalize Bf (1,2,4) (l.take k)=r at *;have aai:=hid Zr;clear hc hs hst Zr hN;by_cases ho:1≤o∧o≤65533
   ·have bB:=hid (fun W=>Sb W r.1 r.2.1 r.2.2 (x,m,o) hra hrb hrc ho);dsimp only at bB;have hz2:=AV r.1 r.2.1 r.2.2 o ho.1 ho.2;obtain⟨⟨ra,rb,rc⟩,ajk⟩:∃r',r'=oz r.1 r.2.1 r.2.2 o:=⟨_,rfl⟩;rw[←ajk]at bB HN2;have hth:kJ r (x,m,o)=[x.toNat,(m-3).toNat,(nU r.1 r.2.1 r.2.2 o).toNat]:=rfl;rw[hth]at HN2;obtain⟨z2,akw⟩:∃z2,z2=nU r.1 r.2.1 r.2.2 o:=⟨_,rfl⟩;rw[←akw]at bB HN2 hz2;have hw3:=aib m om;obtain⟨z1,ahO⟩:∃z1,z1=IntKind.i64.wrap (m-3):=⟨_,rfl⟩;rw[←ahO]at bB hw3;have Hw3:=hid hw3;have Hoz:Hid (lY z1):=hid (by rw[ahO];exact YD m om);dsimp only at bB;clear ajk hth akw ahO hw3 hra hrb hrc ahG;go_wp2_with fail
    refine(bB.out _).mono ?_;rintro e w3 ⟨rfl,hb3⟩;have Uw:=aai.out.below hb3;have abh:=Uw.low;obtain⟨bn,hbn⟩:∃bn,w3.heap.size=bn:=⟨_,rfl⟩;have rt:=Row.new (w3.alloc (.cells #[.int .i64 x,.int .i64 z1,.int .i64 z2] 30)) 154 [.int .i64 ra,.int .i64 rb,.int .i64 rc];have rn:=(Row.new w3 30 [.int .i64 x,.int .i64 z1,.int .i64 z2]).alloc (.cells #[.int .i64 ra,.int .i64 rb,.int .i64 rc] 154);rw[World.size_alloc,hbn]at rt;rw[hbn]at rn;have lD:=(Uw.below ((Below.refl w3.heap.size w3).alloc (Nat.le_refl _) (.cells #[.int .i64 x,.int .i64 z1,.int .i64 z2] 30))).below ((Below.refl _ (w3.alloc (.cells #[.int .i64 x,.int .i64 z1,.int .i64 z2] 30))).alloc (Nat.le_refl _) (.cells #[.int .i64 ra,.int .i64 rb,.int .i64 rc] 154));have uU:=hid lD;have Hrt:=hid rt;have Hrn:=hid rn;have Hbn:=hid hbn;obtain⟨t0,t1,t2⟩:=fV lD.Sq;have f0:=lD.Sq.free 0;have f1:=lD.Sq.free 1;have f2:=lD.Sq.free 2;obtain⟨q0,q1,q2⟩:=fV rt;obtain⟨p0,p1,p2⟩:=fV rn;have n1:bn+1≠b7:=by omega
    have n2:bn≠b7:=by omega
    rw[←hbn]at q0 q1 q2 p0 p1 p2 n1 n2;clear hb3 Uw lD rt rn hbn abh bB aai y0 y1 y2 c0 c1 c2;go_wp2;rw[Hbn.out];have Qp:=uU.out.turn ra rb rc;have aiP:Hid (CoO w (((((w3.alloc (.cells #[.int .i64 x,.int .i64 z1,.int .i64 z2] 30)).alloc (.cells #[.int .i64 ra,.int .i64 rb,.int .i64 rc] 154)).setCell ⟨b7,0,none⟩ (.int .i64 ra)).setCell ⟨b7,1,none⟩ (.int .i64 rb)).setCell ⟨b7,2,none⟩ (.int .i64 rc)) B b2 b5 b6 b7 us (xL N []) (N.flatten++[]) (ra,rb,rc)):=hid (by
     rw[List.append_nil];exact Qp.congr (fun s _=>Va N s))
    clear Qp uU Hrt Hrn Hbn t0 t1 t2 f0 f1 f2 q0 q1 q2 p0 p1 p2 n1 n2;generalize ((((w3.alloc (.cells #[.int .i64 x,.int .i64 z1,.int .i64 z2] 30)).alloc (.cells #[.int .i64 ra,.int .i64 rb,.int .i64 rc] 154)).setCell ⟨b7,0,none⟩ (.int .i64 ra)).setCell ⟨b7,1,none⟩ (.int .i64 rb)).setCell ⟨b7,2,none⟩ (.int .i64 rc)=wB at *;have HNf:Hid ((∀v∈N.flatten,v≤65535)∧N.flatten.length≤3*700∧N.length≤700):=hid (by
     rw[HN.out,iY,fK,List.length_take];exact⟨rJ _ _ hall.out,by omega,by omega⟩)
    rename World=>wo
    go_loopw [13,14,15,16,17,18,38] (fun _ _ _ _ _ _ i wr=>∃(j:Nat) (vs:List Nat) (us:List Value),i=.int .i64 (j:Int)∧j≤3∧Hid (vs.length=j)∧Hid (∀v∈vs,v≤65535)∧Hid ([x,z1,z2].take j=vs.map fun v:Nat=>(v:Int)) ∧
     Hid (CoO w wr B b2 b5 b6 b7 us (xL N vs) (N.flatten++vs) (ra,rb,rc))) (fun _ _ _ _ _ _ i _=>3-(intOf i).toNat)
    case atStart=>exact⟨0,[],us,rfl,by omega,hid rfl,hid (by simp),hid rfl,aiP⟩
    case round=>
     obtain⟨j,vs,us,rfl,hj,hvs,afv,hzs,hst⟩:=hrel;clear aiP;by_cases hj3:j<3
     ·have dj:(j:Int)<3:=by omega
      obtain⟨z,hz⟩:∃z,[x,z1,z2][j]?=some z:=⟨_,List.getElem?_eq_getElem (by simpa using hj3)⟩;have hidx:=Qt x z1 z2 z j hz;have Hz:=hid hz;have ahP:lY z:=by
       rcases(by omega:j=0∨j=1∨j=2)with rfl | rfl | rfl
       ·simp at hz;subst hz;exact ox
       ·simp at hz;subst hz;exact Hoz.out
       ·simp at hz;subst hz;unfold lY;omega
      have hu:∃u,us[j]?=some u:=⟨_,List.getElem?_eq_getElem (by rw[hst.out.len];exact hj3)⟩;obtain⟨u,hu⟩:=hu;have Hu:=hid hu;clear hz hu;by_cases hz0:0≤z∧z≤65535
      ·obtain⟨v,rfl⟩:∃v:Nat,z=(v:Int):=⟨z.toNat,by omega⟩;have hv:v≤65535:=by omega
       have bB:=hid (fun W=>Hcy.out v hv W);have hm2:=(mD v hv).2.1;have hcu:IntKind.u32.wrap ((kr v:Nat):Int)=((kr v:Nat):Int):=by rw[IntKind.wrap_u32];omega
       have zU:=hid (fun W h=>uM b6 v (N.flatten++vs) W hv (fun q hq=>(List.mem_append.1 hq).elim (HNf.out.1 q) (afv.out q)) (by rw[List.length_append,hvs.out];have:=HNf.out.2.1;omega) h);have lC:=hid hst.out;have hP:(xL N vs j).length≤701:=Nat.le_trans (UZ N vs j) (by have:=HNf.out.2.2;omega);clear hz0 hst ahP Hcy Hcn;go_wp2_with fail
       refine(bB.out _).mono ?_;rintro e w4 ⟨rfl,hb4⟩;have lD:=lC.out.below hb4;have c5:=(lD.all.cell j).trans Hu.out;have BR:=hid (lD.fam.own j u Hu.out);have hs4:=lD.low;have uU:=hid lD;clear hb4 lD lC bB;generalize hcd:kM v=cd at *;go_wp2_with (at_builtin;refine wpList_append_lies _ rfl _ _ 87 rfl B 5 i0 (.int .u8 0) 1 1 underlying87 hi hy0 hy1 hy2 rfl (by decide) _ _ _ rfl (BR.out.alloc _) ⟨w4.heap.size,0,none⟩ 1 1 [.int .u8 (cd:Int)] rfl rfl ?d1 ?d2 (by decide) ?d3 ?d4 ?d5 _ rfl ?_)
       case d1=>
        intro j u hj;match j,hj with
        | 0,hj=>simp at hj;subst hj;simp[Addr.add]
       case d2=>intro u hu;simp at hu;subst hu;rfl
       case d3=>unfold maxLen;omega
       case d4=>omega
       case d5=>simp;omega
       intro g7 aja w7 bN gH agp ajH;have Qp:=uU.out.below ((Below.refl w4.heap.size w4).alloc (Nat.le_refl _) (.cells #[.int .u8 (cd:Int)] 5));have happ:=Oe N vs v;rw[hcd,hvs.out]at happ;have e7:u8s (xL N vs j)++[Value.int .u8 (cd:Int)]=u8s (xL N (vs++[v]) j):=by rw[happ];simp[u8s]
       rw[e7]at bN;have afa:(xL N (vs++[v]) j).length=(xL N vs j).length+1:=by rw[happ];simp
       have adv:=Qp.app (P':=xL N (vs++[v])) Hu.out gH (by rw[World.size_alloc];exact agp) bN afa (fun t ht=>Kw N vs v t (by rw[hvs.out];exact ht));have alL:=Qp.low;have ajK:∀q,q<B→u.ownBlock≠some q:=fun q hq e=>by have:=(BR.out.lt q e).1;omega
       have r5':=Qp.all.keep (gH.block b5 (by omega) (fun e=>ajK b5 (by omega) e.symm));have c7:=(r5'.cell j).trans Hu.out;have f7:=r5'.free j;have aaj:=hid adv;have Hp6:=hid (zU.out _ adv.wr);clear bN gH agp ajH Qp happ e7 afa adv alL ajK r5' BR uU c5 zU;go_wp2_with fail
       refine Hp6.out.mono ?_;rintro e w8 ⟨rfl,aku,hg8⟩;have adk:=hid (aaj.out.put hg8 aku);clear aku hg8 aaj Hp6 c7 f7;go_wp2;go_roundw
       case rel=>
        refine⟨j+1,vs++[v],_,by go_num,by omega,hid (by rw[List.length_append,hvs.out];rfl),hid (fun q hq=>?_),hid ?_,by rw[←List.append_assoc];exact adk⟩
        ·rcases List.mem_append.1 hq with hq | hq
         ·exact afv.out q hq
         ·rw[List.mem_singleton.1 hq];exact hv
        ·rw[List.take_add_one,Hz.out,hzs.out,List.map_append];rfl
       case measure=>simp[intOf];omega
      ·have hzb:z<0∨65535<z:=by omega
       have bB:=hid (fun W=>Hcn.out z ahP hzb W);have Kr:Hid (¬∀s∈l,Ew s):=hid (fun h=>by
        have hm:=h (x,m,o) (by rw[←Hs.out];exact List.getElem_mem hkl);obtain⟨m1,m2,m3,m4,m5,m6⟩:=hm;dsimp only at m1 m2 m3 m4 m5 m6;have hz:=Hz.out;have hw1:=Hw3.out.1 ⟨m3,m4⟩;rcases(by omega:j=0∨j=1∨j=2)with rfl | rfl | rfl
        ·simp at hz;omega
        ·simp at hz;omega
        ·simp at hz;omega)
       have lC:=hid hst.out;clear hz0 hst ahP Hcy Hcn hzb Hu;go_wp2_with fail
       refine(bB.out _).mono ?_;rintro e w4 ⟨rfl,hb4⟩;have lD:=lC.out.below hb4;obtain⟨d0,d1,d2⟩:=fV lD.res;have f0:=lD.res.free 0;have f1:=lD.res.free 1;have f2:=lD.res.free 2;have abg:=lD.low;have r4:=((lD.res.aW 0 (.slice none 0 0)).aW 1 (.slice none 0 0)).aW 2 (.slice none 0 0);simp only[List.set_cons_zero,List.set_cons_succ]at r4;obtain⟨s0,s1,s2⟩:=fV r4;have HS:=hid (⟨s0,s1,s2⟩:_∧_∧_);have HB4:=hid (((lD.bel.setCell (p:=⟨b2,0,none⟩) abg.1 (.slice none 0 0)).setCell (p:=⟨b2,1,none⟩) abg.1 (.slice none 0 0)).setCell (p:=⟨b2,2,none⟩) abg.1 (.slice none 0 0));clear hb4 lD r4 s0 s1 s2 bB lC;go_wp2;obtain⟨s0,s1,s2⟩:=HS.out;refine bodyPost_ret (v:=.tuple #[.agg #[.slice none 0 0,.slice none 0 0,.slice none 0 0],.slice none 0 0,.bool false]) (by simp[results,results61,go_sem,s0,s1,s2]) rfl ⟨?_,HB4.out⟩;rw[YM.out];show lT _ _ l;unfold lT;rw[if_neg Kr.out]
     ·have abe:j=3:=by omega
      subst abe;have ahQ:=hzs.out;rw[show [x,z1,z2].take 3=[x,z1,z2]from rfl]at ahQ;obtain⟨v0,v1,v2,hv3⟩:∃v0 v1 v2,vs=[v0,v1,v2]:=by
       match vs,hvs.out with
       | [a,b,c],_=>exact⟨a,b,c,rfl⟩
      subst hv3;simp only[List.map_cons,List.map_nil,List.cons.injEq,and_true]at ahQ;obtain⟨ex,e1,e2⟩:=ahQ;have b0:=afv.out v0 (by simp);have b1:=afv.out v1 (by simp);have hm3:=Hw3.out.2 (by omega);have hw1:=Hw3.out.1 hm3;have PZ:Hid (∀s∈l.take (k+1),Ew s):=hid (fun s hs=>by
       rw[Htk.out]at hs;rcases List.mem_append.1 hs with hs | hs
       ·exact hall.out s hs
       ·rw[List.mem_singleton.1 hs];unfold Ew;dsimp only;omega)
      have akp:[x.toNat,(m-3).toNat,z2.toNat]=[v0,v1,v2]:=by
       rw[←hw1,ex,e1,e2];simp
      have agm:=HN2.out;rw[akp]at agm;have alc:Hid (CoO w wr B b2 b5 b6 b7 us (fun j=>cZ j (aP (1,2,4) (l.take (k+1)))) (aP (1,2,4) (l.take (k+1))).flatten (Bf (1,2,4) (l.take (k+1)))):=hid (by
       rw[agm.1,agm.2,List.flatten_append,List.flatten_singleton];exact hst.out.congr (fun s hs=>(UY N [v0,v1,v2] s (by simpa using hs)).symm))
      clear hst akp agm hw1 hm3 b0 b1 ex e1 e2 hzs hvs afv HN2 HNf Hw3 Hoz HN Htk;go_wp2;go_roundw
      case rel=>exact⟨k+1,us,by go_num,by omega,PZ,alc⟩
      case measure=>simp[intOf];omega
   ·have bB:=hid (fun W=>Xo W r.1 r.2.1 r.2.2 (x,m,o) hra hrb hrc oo ho);dsimp only at bB;have Kr:Hid (¬∀s∈l,Ew s):=hid (fun h=>by
     have hm:=h (x,m,o) (by rw[←Hs.out];exact List.getElem_mem hkl);exact ho ⟨hm.2.2.2.2.1,hm.2.2.2.2.2⟩)
    have lC:=aai;clear aai hra hrb hrc ahG ho HN2 HN Htk Hcy Hcn;generalize IntKind.i64.wrap (m-3)=z1 at *;go_wp2_with fail
    refine(bB.out _).mono ?_;rintro e w4 ⟨rfl,hb4⟩;have lD:=lC.out.below hb4;have lD:=(lD.below ((Below.refl w4.heap.size w4).alloc (Nat.le_refl _) (.cells #[.int .i64 x,.int .i64 z1,.int .i64 0] 30))).below ((Below.refl _ (w4.alloc (.cells #[.int .i64 x,.int .i64 z1,.int .i64 0] 30))).alloc (Nat.le_refl _) (.cells #[.int .i64 r.1,.int .i64 r.2.1,.int .i64 r.2.2] 154));obtain⟨d0,d1,d2⟩:=fV lD.res;have f0:=lD.res.free 0;have f1:=lD.res.free 1;have f2:=lD.res.free 2;have abg:=lD.low;have r4:=((lD.res.aW 0 (.slice none 0 0)).aW 1 (.slice none 0 0)).aW 2 (.slice none 0 0);simp only[List.set_cons_zero,List.set_cons_succ]at r4;obtain⟨s0,s1,s2⟩:=fV r4;have HS:=hid (⟨s0,s1,s2⟩:_∧_∧_);have HB4:=hid (((lD.bel.setCell (p:=⟨b2,0,none⟩) abg.1 (.slice none 0 0)).setCell (p:=⟨b2,1,none⟩) abg.1 (.slice none 0 0)).setCell (p:=⟨b2,2,none⟩) abg.1 (.slice none 0 0));clear hb4 lD r4 s0 s1 s2 bB lC;go_wp2_with fail
    generalize (w4.alloc (.cells #[.int .i64 x,.int .i64 z1,.int .i64 0] 30)).alloc (.cells #[.int .i64 r.1,.int .i64 r.2.1,.int .i64 r.2.2] 154)=wC at *;go_wp2;obtain⟨s0,s1,s2⟩:=HS.out;refine bodyPost_ret (v:=.tuple #[.agg #[.slice none 0 0,.slice none 0 0,.slice none 0 0],.slice none 0 0,.bool false]) (by simp[results,results61,go_sem,s0,s1,s2]) rfl ⟨?_,HB4.out⟩;rw[YM.out];show lT _ _ l;unfold lT;rw[if_neg Kr.out]
  ·have hkn':k=n:=by omega
   subst hkn';have dk:decide ((k:Int)<(k:Int))=false:=decide_eq_false (by omega);have htl:l.take k=l:=by rw[Hn.out,List.take_length]
   have PZ:=hall.out;rw[htl]at PZ;have xQ:=hst.out;rw[htl]at xQ;have BJ:=hid PZ;have Hst:=hid xQ;clear hall hst PZ xQ htl Hcy Hcn;obtain⟨u0,u1,u2,hus⟩:∃u0 u1 u2,us=[u0,u1,u2]:=by
    match us,Hst.out.len with
    | [a,b,c],_=>exact⟨a,b,c,rfl⟩
   subst hus;have hlo:=Hst.out.low;have o0:=Hst.out.fam.own 0 u0 rfl;have o1:=Hst.out.fam.own 1 u1 rfl;have o2:=Hst.out.fam.own 2 u2 rfl;have hpl:∀j,(cZ j (aP (1,2,4) l)).length=k:=fun j=>by rw[cZ,List.length_map,fK,Hn.out]
   rw[hpl]at o0 o1 o2;obtain⟨A0,k0,rfl,hr0,hA0⟩:=dM o0;obtain⟨A1,k1,rfl,hr1,hA1⟩:=dM o1;obtain⟨A2,k2,rfl,hr2,hA2⟩:=dM o2;have hk0:=(AZ o0).1;have hk1:=(AZ o1).1;have hk2:=(AZ o2).1;have hnl:(bG (aP (1,2,4) l).flatten).2≤100000:=by
    have h1:=uq _ (rJ l (1,2,4) BJ.out);rw[iY]at h1;have:=Hn.out;omega
   have Hby:=hid (jV b6 0 _ _ wr.drew (by omega) Hst.out.wr.drew);have HR:=hid (⟨hr0,hr1,hr2⟩:_∧_∧_);have HA:=hid (⟨fun a e=>(hA0 a e).1,fun a e=>(hA1 a e).1,fun a e=>(hA2 a e).1⟩:(∀a,A0=some a→B≤a.block)∧(∀a,A1=some a→B≤a.block)∧(∀a,A2=some a→B≤a.block));have HK:=hid (⟨hk0,hk1,hk2⟩:k≤k0∧k≤k1∧k≤k2);obtain⟨a0,a1,a2⟩:=fV Hst.out.all;have hbl:(dK (aP (1,2,4) l)).length=((bG (aP (1,2,4) l).flatten).2+7)/8:=by rw[dK,Bm.bytesOf_length]
   have hbe:Bm.bytesOf (bG (aP (1,2,4) l).flatten).1 (((bG (aP (1,2,4) l).flatten).2+7)/8)=dK (aP (1,2,4) l):=rfl;rw[hbe,←hbl]at Hby;clear o0 o1 o2 hpl hr0 hr1 hr2 hA0 hA1 hA2 hk0 hk1 hk2 hnl hbl hbe;generalize hbE:dK (aP (1,2,4) l)=bE at *;have HbE:=hid hbE;clear hbE;go_upto_region 21 with fail
   refine wp_region_held_drew (S:=(fun W:World=>W.cell? ⟨b5,0,none⟩=some (.slice A0 k k0)∧W.cell? ⟨b5,1,none⟩=some (.slice A1 k k1)∧W.cell? ⟨b5,2,none⟩=some (.slice A2 k k2))) (by kernel_rfl) (by exact⟨a0,a1,a2⟩) (fun hHeld=>?_);refine wpAnyH_take (i:=0) (oi:={dst:=some 66,op:=.load 108 (.tmp 5),type:=108,pos:= "seqs.go:80",after:=#[],guard:=none}) (v:=?_) rfl (by kernel_rfl) (by kernel_rfl) (by kernel_rfl) (fun _ _ _ h=>h) (Or.inl ⟨by rfl,?_⟩) (by assumption) ?_;rotate_left
   ·(intro w hSw;(try dsimp only at hSw);go_simp;(try with_reducible rfl))
   try simp only[Act.put,List.setIfInBounds_toArray,List.set_cons_zero,List.set_cons_succ]
   refine wpAnyH_ready (rs:=[1]) (by kernel_rfl) (by simp) ?_;refine AllReadyH.cons (o:={dst:=some 67,op:=.call {callee:=.value (.func 100),args:=#[.tmp 6],argTypes:=#[153]},type:=87,pos:= "seqs.go:80",after:=#[],guard:=none}) rfl (fun K hK=>?_) AllReadyH.nil;go_simp
   (go_at_call 100;refine Hby.out.mono ?_;rintro e w8 ⟨g,rfl,hge,afr,hb8⟩;have HX:=hid ((Below.refl wr.heap.size wr).drew.trans (hb8.mono (Nat.le_refl _)));have HR8:=hid afr;have HG:=hid hge;clear hge afr hb8)
   go_simp;refine hK.out _ _ (by exact fV (Hst.out.below HX.out).all) (fun hHeld=>?_);clear hK K
   try simp only[Act.put,List.setIfInBounds_toArray,List.set_cons_zero,List.set_cons_succ]
   have adw:=Hst.out.below HX.out;obtain⟨d0,d1,d2⟩:=fV adw.res;have f0:=adw.res.free 0;have f1:=adw.res.free 1;have f2:=adw.res.free 2;have adk:=hid adw;clear adw;refine wpAnyH_ready (rs:=[2]) (by kernel_rfl) (by simp) ?_;refine AllReadyH.cons (o:={dst:=none,op:=.store 108 (.tmp 2) (.tmp 66),type:=0,pos:= "seqs.go:80",after:=#[{on:=0,ground:=.data},{on:=1,ground:=.chain},{on:=0,ground:=.phase},{on:=1,ground:=.textOnly Go.Departure.lateStoresUnsure}],guard:=none}) rfl (fun K hK=>?_) AllReadyH.nil;go_simp;refine hK.out _ _ (by exact fV (((adk.out.all.far (p:=⟨b2,0,none⟩) (by show b5≠b2;omega) (.slice A0 k k0)).far (p:=⟨b2,1,none⟩) (by show b5≠b2;omega) (.slice A1 k k1)).far (p:=⟨b2,2,none⟩) (by show b5≠b2;omega) (.slice A2 k k2))) (fun hHeld=>?_);clear hK K
   try simp only[Act.put,List.setIfInBounds_toArray,List.set_cons_zero,List.set_cons_succ]
   refine wpAnyH_take (i:=3) (oi:={dst:=some 3,op:=.assign (.tmp 67),type:=87,pos:= "seqs.go:80",after:=#[{on:=1,ground:=.data},{on:=2,ground:=.chain},{on:=0,ground:=.phase},{on:=1,ground:=.phase},{on:=2,ground:=.phase}],guard:=none}) (v:=?_) rfl (by kernel_rfl) (by kernel_rfl) (by kernel_rfl) (fun _ _ _ h=>h) (Or.inl ⟨by rfl,?_⟩) (by assumption) ?_;rotate_left
   ·(intro w hSw;(try dsimp only at hSw);go_simp;(try with_reducible rfl))
   try simp only[Act.put,List.setIfInBounds_toArray,List.set_cons_zero,List.set_cons_succ]
   refine wpAnyH_take (i:=4) (oi:={dst:=some 4,op:=.assign (.const (.bool true)),type:=4,pos:= "seqs.go:80",after:=#[{on:=3,ground:=.chain},{on:=0,ground:=.phase},{on:=1,ground:=.phase},{on:=2,ground:=.phase},{on:=3,ground:=.phase}],guard:=none}) (v:=?_) rfl (by kernel_rfl) (by kernel_rfl) (by kernel_rfl) (fun _ _ _ h=>h) (Or.inl ⟨by rfl,?_⟩) (by assumption) ?_;rotate_left
   ·(intro w hSw;(try dsimp only at hSw);go_simp;(try with_reducible rfl))
   try simp only[Act.put,List.setIfInBounds_toArray,List.set_cons_zero,List.set_cons_succ]
   refine wpAnyH_done (by kernel_rfl) ?_ _;have rb2:=((adk.out.res.aW 0 (.slice A0 k k0)).aW 1 (.slice A1 k k1)).aW 2 (.slice A2 k k2);simp only[List.set_cons_zero,List.set_cons_succ]at rb2;have HB9:=hid (((adk.out.bel.setCell (p:=⟨b2,0,none⟩) hlo.1 (.slice A0 k k0)).setCell (p:=⟨b2,1,none⟩) hlo.1 (.slice A1 k k1)).setCell (p:=⟨b2,2,none⟩) hlo.1 (.slice A2 k k2));have rg:Row (((w8.setCell ⟨b2,0,none⟩ (.slice A0 k k0)).setCell ⟨b2,1,none⟩ (.slice A1 k k1)).setCell ⟨b2,2,none⟩ (.slice A2 k k2)) g 5 (u8s bE):=by
    have hgb:g≠b2:=by have:=HG.out;simp at this;omega
    exact((HR8.out.far (p:=⟨b2,0,none⟩) hgb (.slice A0 k k0)).far (p:=⟨b2,1,none⟩) hgb (.slice A1 k k1)).far (p:=⟨b2,2,none⟩) hgb (.slice A2 k k2)
   have rd:∀(A:Option Addr) (cs:List Nat),(∀a,A=some a→B≤a.block)→Reads wr A (u8s cs)→Reads (((w8.setCell ⟨b2,0,none⟩ (.slice A0 k k0)).setCell ⟨b2,1,none⟩ (.slice A1 k k1)).setCell ⟨b2,2,none⟩ (.slice A2 k k2)) A (u8s cs):=fun A cs hA h=>by
    have hne:∀a,A=some a→a.block≠b2:=fun a e=>by have:=hA a e;omega
    exact kD (kD (kD (aC h HX.out) hne (dX _ ⟨b2,0,none⟩ _)) hne (dX _ ⟨b2,1,none⟩ _)) hne (dX _ ⟨b2,2,none⟩ _)
   have HRD:=hid (⟨rd A0 _ HA.out.1 HR.out.1,rd A1 _ HA.out.2.1 HR.out.2.1,rd A2 _ HA.out.2.2 HR.out.2.2,bR rg⟩:_∧_∧_∧_);obtain⟨s0,s1,s2⟩:=fV rb2;have HS:=hid (⟨s0,s1,s2⟩:_∧_∧_);clear rb2 rg rd s0 s1 s2 adk Hst HX HR8 HG HR HA a0 a1 a2 d0 d1 d2 f0 f1 f2 hHeld Hby;generalize ((w8.setCell ⟨b2,0,none⟩ (.slice A0 k k0)).setCell ⟨b2,1,none⟩ (.slice A1 k k1)).setCell ⟨b2,2,none⟩ (.slice A2 k k2)=w9 at *;go_wp2;obtain⟨s0,s1,s2⟩:=HS.out;refine bodyPost_ret (v:=.tuple #[.agg #[.slice A0 k k0,.slice A1 k k1,.slice A2 k k2],.slice (some ⟨g,0,none⟩) bE.length bE.length,.bool true]) (by simp[results,results61,go_sem,s0,s1,s2]) rfl ⟨?_,HB9.out⟩;rw[YM.out];show lT _ _ l;unfold lT;rw[if_pos BJ.out,←Hn.out,HbE.out];exact⟨A0,k0,A1,k1,A2,k2,some ⟨g,0,none⟩,bE.length,rfl,HK.out.1,HK.out.2.1,HK.out.2.2,HRD.out.1,HRD.out.2.1,HRD.out.2.2.1,HRD.out.2.2.2⟩
end Go.Proofs.YtgiicohbigiapaaGreat
