/- Contracts, and what they rest on. Conditions: the theorems' premises. -/
import Derived.Test.YtgiicohbigiapaaGreatYau
import Derived.Test.YtgiicohbigiapaaGreatYbg
import Derived.Test.YtgiicohbigiapaaGreatYap
set_option maxHeartbeats 4000000
set_option maxRecDepth 100000
open Go.Lib(hid)
open Go.Proofs.Tryz Go.Proofs.YtgiicohbigiapaaGreat.Bm
namespace Go.Proofs.YtgiicohbigiapaaGreat
open Go.RowKit
theorem Bc(t:List Nat)(p:List Nat×Nat)(h:qz t=some p):wP 4096 (some t)=(p.1,some (t.drop p.2))∧p.1.length≤4096:=by
 unfold qz at h;split at h
 ·next hc=>
  injection h with h
  subst h;dsimp only;unfold wP;rw[mo 4096 t hc.1 (by omega)];simp only[gU];rw[if_pos (by rw[List.length_drop];exact hc.2.2),List.drop_drop];exact⟨rfl,by rw[List.length_take];omega⟩
 ·cases h
theorem Bb(t:List Nat)(h:qz t=none):wP 4096 (some t)=([],none):=by
 unfold qz at h;split at h
 ·cases h
 ·next hc=>
  unfold wP;by_cases h0:0<(au t).2∧((au t).1:Int)≤4096
  ·rw[mo 4096 t h0.1 h0.2];simp only[gU];rw[if_neg (by rw[List.length_drop];omega)]
  ·rw[yI 4096 t h0];rfl
theorem GI(t:List Nat)(p:List Nat×Nat)(h:qz t=some p)(hlt:∀x∈t,x<256):∀x∈p.1,x<256:=by
 unfold qz at h;split at h
 ·injection h with h
  subst h;exact gM (dB hlt _) _
 ·cases h
theorem WJ(c b pos:Nat)(bs:List Nat)(w:World)(hc:c<28)(hs:bs.length≤100000)(hbs:∀x∈bs,x<256)(hle:pos+exK c≤8*bs.length)(h:RS w b 0 bs pos) :
  Calls prog 149 #[.int .u8 (c:Int),.pointer (some ⟨b,0,none⟩)] w fun e w'=>e=.returned (.tuple #[.int .i64 (Nj c (aV bs/2^pos):Int),.bool true])∧RS w' b 0 bs (pos+exK c)∧w.grownBy w' (some b):=by
 have hx0:exK c≤15:=by unfold exK;split<;>omega
 have hE:bZ c=(exK c:Int):=by unfold bZ exK;split;rfl;rw[if_neg (by omega)]
 have Zp:=hid (jT w c (by omega));have hmax:max (bZ c) 0=(exK c:Int):=by rw[hE];omega
 have hdec:decide (0≤bZ c)=true:=decide_eq_true (by rw[hE];omega);rw[hmax,hdec]at Zp;have Ht:=hid (jG b 0 bs pos (exK c) w (by omega) hbs (by omega) hle h);have hm:=Nat.mod_lt (aV bs/2^pos) (Nat.two_pow_pos (exK c));have hP:2^exK c≤2^15:=Nat.pow_le_pow_right (by omega) hx0;have h15:(2:Nat)^15=32768:=by decide
 have hval:iB c (aV bs/2^pos%2^exK c)=some (Nj c (aV bs/2^pos)):=by
  unfold iB Nj;unfold exK at hm ⊢;by_cases h16:c<16
  ·simp only[if_pos h16];rw[Nat.pow_zero,Nat.mod_one,if_pos rfl]
  ·simp only[if_neg h16]at hm ⊢;rw[if_neg (by omega),if_pos hm]
 have Hv:=hid (fun W=>CO W c (aV bs/2^pos%2^exK c) (by omega) (by omega));rw[hval]at Hv;dsimp only at Hv;clear hval hE hmax hdec h hbs hm;generalize aV bs/2^pos%2^exK c=m at *;generalize Nj c (aV bs/2^pos)=v at *;obtain⟨q,hq⟩:∃q,q=pos+exK c:=⟨_,rfl⟩;rw[←hq]at Ht ⊢;clear hq;generalize exK c=x at *;go_enter func149,ntmps149
 go_wp2_with fail
 refine Zp.out.mono ?_;rintro e w' ⟨rfl,rfl⟩;go_wp2_with fail
 refine Ht.out.mono ?_;rintro e w2 ⟨rfl,hr2,hg2⟩;have Hr2:=hid hr2;have Hg2:=hid hg2;clear hr2 hg2 Ht Zp;go_wp2_with fail
 refine(Hv.out w2).mono ?_;rintro e w3 ⟨rfl,hb3⟩;have Hr3:=hid (Hr2.out.below hb3);have Hg3:=hid (bF Hg2.out (aj hb3 _));clear hb3 Hr2 Hg2 Hv;go_wp2;go_ret2;exact⟨rfl,Hr3.out,Hg3.out⟩
theorem abG(c b pos:Nat)(bs:List Nat)(w:World)(hc:c<28)(hs:bs.length≤100000)(hp:pos≤8*bs.length)(hle:8*bs.length-pos<exK c)(h:RS w b 0 bs pos) :
  Calls prog 149 #[.int .u8 (c:Int),.pointer (some ⟨b,0,none⟩)] w fun e w'=>(∃v:Int,e=.returned (.tuple #[.int .i64 v,.bool false]))∧w.grownBy w' (some b):=by
 have hx0:exK c≤15:=by unfold exK;split<;>omega
 have hE:bZ c=(exK c:Int):=by unfold bZ exK;split;rfl;rw[if_neg (by omega)]
 have Zp:=hid (jT w c (by omega));have hmax:max (bZ c) 0=(exK c:Int):=by rw[hE];omega
 have hdec:decide (0≤bZ c)=true:=decide_eq_true (by rw[hE];omega);rw[hmax,hdec]at Zp;have Ht:=hid (qo b 0 bs pos (exK c) w (by omega) hp (by omega) hle h);have Hv:Hid (∀W,Calls prog 186 #[.int .u8 (c:Int),.int .u32 0] W fun e w'=>(∃(v:Int) (z:Bool),e=.returned (.tuple #[.int .i64 v,.bool z]))∧Below W.heap.size W w'):=hid (fun W=>(CO W c 0 (by omega) (by omega)).mono fun e w' ⟨he,hb⟩=>⟨by
  cases hv:iB c 0 with
  | none=>rw[hv]at he;exact⟨_,_,he⟩
  | some g=>rw[hv]at he;exact⟨_,_,he⟩,hb⟩)
 clear hE hmax hdec h hle;generalize exK c=x at *;go_enter func149,ntmps149
 go_wp2_with fail
 refine Zp.out.mono ?_;rintro e w' ⟨rfl,rfl⟩;go_wp2_with fail
 refine Ht.out.mono ?_;rintro e w2 ⟨rfl,k,rfl⟩;clear Ht Zp;go_wp2_with fail
 refine(Hv.out _).mono ?_;rintro e w3 ⟨⟨v,z,rfl⟩,hb3⟩;have Hg3:=hid (bF (bg (ak w (some b)) k) (aj hb3 _));clear hb3 Hv;go_wp2;go_ret2;exact⟨⟨v,rfl⟩,Hg3.out⟩
def akC(w':World)(e:Ending):Option (List Nat×Nat)→Prop
 | none=>e=.returned (.tuple #[.pointer none,.bool false])
 | some t=>∃p,e=.returned (.tuple #[.pointer (some p),.bool true])∧qE w' p t.1 t.2
namespace Bm
theorem KT(hd:List Nat)(t:List Nat×Nat)(h:headD hd=some t):bL t.1 t.2:=by
 unfold headD at h;split at h
 ·cases h
 ·next u hu=>
  split at h
  ·injection h with h
   subst h;exact(rQ _ _ u.1 u.2.1 u.2.2 hu).1
  ·cases h
end Bm
theorem WT(hd:List Nat)(w:World)(hl:hd.length≤4096)(hlt:∀x∈hd,x<256) :
  Calls prog 210 #[.string (strOf hd)] w fun e w'=>akC w' e (Bm.headD hd)∧Below w.heap.size w w':=by
 obtain⟨w1,cap,dh,hcell,hb1⟩:=bT w hd hlt;have hrs:Reads w1 (some ⟨w.heap.size,0,none⟩) (u8s hd):=fun _=>⟨_,_,rfl,fun j hj=>by
  rw[aO]at hj;rw[Nat.zero_add,hcell j hj,bD hd j hj]⟩
 have xH:=hid (pK (some ⟨w.heap.size,0,none⟩) cap hd w1 hlt hrs);have Hb1:=hid hb1;have htake:=fun W b (h:RS W b 0 hd 0)=>KS W b 0 0 hd (by omega) hlt (by omega) h
 rw[Nat.pow_zero,Nat.div_one,Nat.sub_zero]at htake;have uH:=hid (fun W b pos (hp:pos≤8*hd.length) (h:RS W b 0 hd pos)=>Ec b pos hd W (by omega) hlt hp h);have hres:Bm.headD hd=(match Bm.takeA (aV hd) (8*hd.length)with | none=>none | some t=>if LX (aV hd) (8*hd.length) t.2.2=true then some (t.1,t.2.1)else none):=rfl;rw[hres];have hfair:=fun l lg e' (h:Bm.takeA (aV hd) (8*hd.length)=some (l,lg,e'))=>rQ _ _ l lg e' h
 clear hres hcell hrs hb1;cases htk:Bm.takeA (aV hd) (8*hd.length)with
 | none=>
  rw[htk]at htake;unfold ZI at htake;dsimp only at htake ⊢;have Htk:=hid htake;clear htake hfair htk hlt;generalize strOf hd=sd at *;go_enter func210,ntmps210
  go_wp2_with fail
  refine xH.out.mono ?_;rintro e w2 ⟨rfl,hr2,hb2⟩;have Ht2:=hid (Htk.out w2 _ hr2);have Hb2:=hid (Hb1.out.trans (hb2.mono Hb1.out.size));have Hsz:=hid Hb1.out.size;clear hr2 hb2 xH Hb1 Htk dh;go_wp2_with fail
  refine Ht2.out.mono ?_;rintro e w3 ⟨⟨A,c,rfl⟩,hg3,_⟩;have Hb3:=hid (Hb2.out.grown hg3 Hb2.out.size (fun x e=>by injection e with e;have:=Hsz.out;omega));clear hg3 Ht2 Hb2;go_wp2;go_ret2;exact⟨rfl,Hb3.out⟩
 | some t=>
  obtain⟨ls,lg,e'⟩:=t;obtain⟨hf,he'⟩:=hfair ls lg e' htk;rw[htk]at htake;unfold ZI at htake;dsimp only at htake ⊢;have Htk:=hid htake;have hfl:=hf.len;have hfI:=KI ls lg hf;have h9:=hf.high;have Yn:Hid (∀A c W,Reads W A (aL ls)→Calls prog 165 #[.slice A ls.length c,.int .i64 (lg:Int)] W fun e w'=>∃p,e=.returned (.tuple #[.pointer (some p),.bool true])∧qE w' p ls lg∧Below W.heap.size W w'):=hid (fun A c W h1=>by
   have h2:=Ze.build A c (ls.map (fun n:Nat=>(n:Int))) (lg:Int) W (by rw[List.length_map];omega) (fun x hx=>by
    have:=hfI.2.2.2.1 x hx;unfold bN;omega) (by unfold bN;omega) (by rw[bJ];exact h1) hfI
   rw[List.length_map,Int.toNat_natCast]at h2;have acI:(ls.map (fun n:Nat=>(n:Int))).map Int.toNat=ls:=by
    rw[List.map_map];conv=>rhs;rw[←List.map_id ls]
    apply List.map_congr_left
    intro x _;rfl
   rw[acI]at h2;exact h2)
  have hen:∀W b,RS W b 0 hd (8*hd.length-e')→Calls prog 151 #[.pointer (some ⟨b,0,none⟩)] W fun e w'=>e=.returned (.bool (LX (aV hd) (8*hd.length) e'))∧W.grownBy w' (some b):=fun W b h=>by
   have h1:=uH.out W b (8*hd.length-e') (by omega) h;rw[show 8*hd.length-(8*hd.length-e')=e' by omega]at h1;exact h1
  have Hen:=hid hen;clear htake hfair htk hlt hfI hf uH hen;generalize LX (aV hd) (8*hd.length) e'=r at *;generalize strOf hd=sd at *;go_enter func210,ntmps210
  go_wp2_with fail
  refine xH.out.mono ?_;rintro e w2 ⟨rfl,hr2,hb2⟩;have Ht2:=hid (Htk.out w2 _ hr2);have Hb2:=hid (Hb1.out.trans (hb2.mono Hb1.out.size));have hsz:=Hb1.out.size;have hlt2:=hr2.2.2.2;clear hr2 hb2 xH Hb1 Htk dh;generalize w1.heap.size=b at *;go_wp2_with fail
  refine Ht2.out.mono ?_;rintro e w3 ⟨⟨A,c,rfl,hrd,hA⟩,hg3,hr3⟩;have Hb3:=hid (Hb2.out.grown hg3 Hb2.out.size (fun x e=>by injection e with e;omega));have Hrd:=hid hrd;have HA:=hid hA;have ahG:=hid (Hen.out w3 b (hr3 _ rfl));clear hg3 Ht2 Hb2 hrd hA hr3 Hen;go_wp2_with fail
  refine ahG.out.mono ?_;rintro e w4 ⟨rfl,hg4⟩;have Hb4:=hid (Hb3.out.grown hg4 Hb3.out.size (fun x e=>by injection e with e;omega));have Hbd:=hid (Yn.out A c w4 (jY Hrd.out (fun a e=>by have:=HA.out a e;omega) hg4));clear hg4 ahG Hb3 Hrd HA Yn;cases r with
  | false=>
   go_wp2;go_ret2;exact⟨rfl,Hb4.out⟩
  | true=>
   go_wp2_with fail
   refine Hbd.out.mono ?_;rintro e w5 ⟨p,rfl,hst,hb5⟩;have Hb5:=hid (Hb4.out.trans (hb5.mono Hb4.out.size));have Hst:=hid hst;clear hst hb5 Hbd Hb4;go_wp2;go_ret2;exact⟨⟨p,rfl,Hst.out⟩,Hb5.out⟩
def adO(w':World)(e:Ending):Option (List Bm.Stp)→Prop
 | none=>∃A c,e=.returned (.tuple #[.slice A 0 c,.bool false])
 | some l=>∃A c,e=.returned (.tuple #[.slice A l.length c,.bool true])∧Bj w' A l
theorem Wi(n:Nat):(madeCells #[Value.int .i64 0,.int .i64 0,.int .i64 0] (n*3)).toList=sqs (List.replicate n (0,0,0)):=by
 apply List.ext_getElem
 ·simp[madeCells,zl]
 ·intro i h1 h2;have hi:i<n*3:=by simpa [madeCells]using h1
  have hq:i/3<(List.replicate n ((0,0,0):Bm.Stp)).length:=by simp;omega
  obtain⟨e0,e1,e2⟩:=AP (List.replicate n (0,0,0)) (i/3) hq;rw[List.getElem_replicate]at e0 e1 e2;have hl:(madeCells #[Value.int .i64 0,.int .i64 0,.int .i64 0] (n*3)).toList[i]=(#[Value.int .i64 0,.int .i64 0,.int .i64 0]:Array Value)[i%3]!:=by simp[madeCells]
  have hr:i%3=0∨i%3=1∨i%3=2:=by omega
  rw[hl,←Option.some_inj,←List.getElem?_eq_getElem h2];rcases hr with hr | hr | hr<;>rw[hr]
  ·rw[show i=i/3*3 by omega,e0];rfl
  ·rw[show i=i/3*3+1 by omega,e1];rfl
  ·rw[show i=i/3*3+2 by omega,e2];rfl
theorem Qz(n:Nat)(h:n≤1000000)(W:World):(Instr.makeSlice 68 (.int .i64 (n:Int)) (.int .i64 (n:Int))).run prog W=.ok (.slice (some ⟨W.heap.size,0,none⟩) n n) (W.alloc (.cells (sqs (List.replicate n (0,0,0))).toArray 118)):=by
 obtain⟨i0,hi,hz0,hz1,hz2⟩:=info_parts II;have h1:=run_make (P:=prog) W 68 118 i0 _ underlying68 hi hz0 .i64 .i64 (n:Int) (n:Int) (by omega) (by omega) (by rw[hz2];omega) (by omega);rw[Int.toNat_natCast,hz1,show(Value.agg #[.int .i64 0,.int .i64 0,.int .i64 0]).cells=#[.int .i64 0,.int .i64 0,.int .i64 0]from rfl]at h1;rw[h1,←Wi,Array.toArray_toList]
theorem abU(l:List Bm.Stp)(i:Nat)(x y z:Nat)(h:i<l.length):(((sqs l).set (i*3) (.int .i64 (x:Int))).set (i*3+1) (.int .i64 (y:Int))).set (i*3+2) (.int .i64 (z:Int))=sqs (l.set i (x,y,z)):=by
 induction l generalizing i with
 | nil=>simp at h
 | cons t l ih=>
  cases i with
  | zero=>rfl
  | succ i=>
   have h1:=ih i (by simpa using h);have e1:(i+1)*3=i*3+3:=by omega
   rw[e1,List.set_cons_succ,sqs,sqs,←h1];rfl
structure StO(w W:World)(b0 br bl bc:Nat)(vs:List Value)(L:List Bm.Stp)(r:Int×Int×Int)(bd:List Nat)(pos:Nat):Prop where
 all:Row W b0 108 vs
 rd:RS W br 0 bd pos
 row:Row W bl 118 (sqs L)
 RG:Row W bc 154 [.int .i64 r.1,.int .i64 r.2.1,.int .i64 r.2.2]
 bel:Below w.heap.size w W
 low:w.heap.size≤b0∧b0<br∧br<bl∧bl<bc∧bc<W.heap.size
section
variable {w W W':World} {b0 br bl bc:Nat} {vs:List Value} {L:List Bm.Stp} {r:Int×Int×Int} {bd:List Nat} {pos:Nat}
theorem StO.below(h:StO w W b0 br bl bc vs L r bd pos)(hb:Below W.heap.size W W'):StO w W' b0 br bl bc vs L r bd pos:=by
 obtain⟨h1,h2,h3,h4,h5,h6⟩:=h;exact⟨h1.below hb,h2.below hb,h3.below hb,h4.below hb,h5.trans (hb.mono h5.size),by have:=hb.size;omega⟩
theorem StO.read(h:StO w W b0 br bl bc vs L r bd pos){p:Nat}(hg:W.grownBy W' (some br))(h2:RS W' br 0 bd p):StO w W' b0 br bl bc vs L r bd p:=by
 obtain⟨h1,_,h3,h4,h5,h6⟩:=h;refine⟨h1.keep (hg.block _ (by omega) (by simp;omega)),h2,h3.keep (hg.block _ (by omega) (by simp;omega)),h4.keep (hg.block _ (by omega) (by simp;omega)),h5.grown hg h5.size (fun x e=>by injection e with e;omega),by have:=hg.size;omega⟩
theorem StO.far(h:StO w W b0 br bl bc vs L r bd pos){p:Addr}(hp:bc<p.block)(u:Value):StO w (W.setCell p u) b0 br bl bc vs L r bd pos:=by
 obtain⟨h1,h2,h3,h4,h5,h6⟩:=h;refine⟨h1.far (by omega) u,h2.keep (dV W p u) (by simp;omega),h3.far (by omega) u,h4.far (by omega) u,h5.setCell (by omega) u,by simpa using h6⟩
theorem StO.put(h:StO w W b0 br bl bc vs L r bd pos){L':List Bm.Stp}(i:Nat)(x y z ra rb rc:Int)(hr:Row (((W.setCell ⟨bl,i,none⟩ (.int .i64 x)).setCell ⟨bl,i+1,none⟩ (.int .i64 y)).setCell ⟨bl,i+2,none⟩ (.int .i64 z)) bl 118 (sqs L')) :
  StO w ((((((W.setCell ⟨bl,i,none⟩ (.int .i64 x)).setCell ⟨bl,i+1,none⟩ (.int .i64 y)).setCell ⟨bl,i+2,none⟩ (.int .i64 z)).setCell ⟨bc,0,none⟩ (.int .i64 ra)).setCell ⟨bc,1,none⟩ (.int .i64 rb)).setCell ⟨bc,2,none⟩ (.int .i64 rc)).drew b0 br bl bc vs L' (ra,rb,rc) bd pos:=by
 obtain⟨h1,h2,h3,h4,h5,h6⟩:=h;have e1:∀(W:World) i u,Row W b0 108 vs→Row (W.setCell ⟨bl,i,none⟩ u) b0 108 vs:=fun W i u h=>h.far (by show b0≠bl;omega) u
 have e2:∀(W:World) i u,Row W b0 108 vs→Row (W.setCell ⟨bc,i,none⟩ u) b0 108 vs:=fun W i u h=>h.far (by show b0≠bc;omega) u
 have e3:∀(W:World) i u,RS W br 0 bd pos→RS (W.setCell ⟨bl,i,none⟩ u) br 0 bd pos:=fun W i u h=>h.keep (dV W ⟨bl,i,none⟩ u) (by simp;omega)
 have e4:∀(W:World) i u,RS W br 0 bd pos→RS (W.setCell ⟨bc,i,none⟩ u) br 0 bd pos:=fun W i u h=>h.keep (dV W ⟨bc,i,none⟩ u) (by simp;omega)
 have e5:∀(W:World) i u {cs},Row W bl 118 cs→Row (W.setCell ⟨bc,i,none⟩ u) bl 118 cs:=fun W i u cs h=>h.far (by show bl≠bc;omega) u
 have e6:∀(W:World) i u {cs},Row W bc 154 cs→Row (W.setCell ⟨bl,i,none⟩ u) bc 154 cs:=fun W i u cs h=>h.far (by show bc≠bl;omega) u
 have e7:∀(W:World) i u,Below w.heap.size w W→Below w.heap.size w (W.setCell ⟨bl,i,none⟩ u):=fun W i u h=>h.setCell (by show w.heap.size≤bl;omega) u
 have e8:∀(W:World) i u,Below w.heap.size w W→Below w.heap.size w (W.setCell ⟨bc,i,none⟩ u):=fun W i u h=>h.setCell (by show w.heap.size≤bc;omega) u
 have r4:=((e6 _ (i+2) (.int .i64 z) (e6 _ (i+1) (.int .i64 y) (e6 _ i (.int .i64 x) h4))).aY 0 (.int .i64 ra));have r5:=(r4.aY 1 (.int .i64 rb)).aY 2 (.int .i64 rc);simp only[List.set_cons_zero,List.set_cons_succ]at r5;have hs:((((((W.setCell ⟨bl,i,none⟩ (.int .i64 x)).setCell ⟨bl,i+1,none⟩ (.int .i64 y)).setCell ⟨bl,i+2,none⟩ (.int .i64 z)).setCell ⟨bc,0,none⟩ (.int .i64 ra)).setCell ⟨bc,1,none⟩ (.int .i64 rb)).setCell ⟨bc,2,none⟩ (.int .i64 rc)).heap.size=W.heap.size:=by simp[World.setCell]
 have q1:=e2 _ 2 (.int .i64 rc) (e2 _ 1 (.int .i64 rb) (e2 _ 0 (.int .i64 ra) (e1 _ (i+2) (.int .i64 z) (e1 _ (i+1) (.int .i64 y) (e1 _ i (.int .i64 x) h1)))));have q2:=e4 _ 2 (.int .i64 rc) (e4 _ 1 (.int .i64 rb) (e4 _ 0 (.int .i64 ra) (e3 _ (i+2) (.int .i64 z) (e3 _ (i+1) (.int .i64 y) (e3 _ i (.int .i64 x) h2)))));have q3:=e5 _ 2 (.int .i64 rc) (e5 _ 1 (.int .i64 rb) (e5 _ 0 (.int .i64 ra) hr));have q5:=e8 _ 2 (.int .i64 rc) (e8 _ 1 (.int .i64 rb) (e8 _ 0 (.int .i64 ra) (e7 _ (i+2) (.int .i64 z) (e7 _ (i+1) (.int .i64 y) (e7 _ i (.int .i64 x) h5)))));clear e1 e2 e3 e4 e5 e6 e7 e8 hr h1 h2 h3 h4 h5 r4;generalize (((((W.setCell ⟨bl,i,none⟩ (.int .i64 x)).setCell ⟨bl,i+1,none⟩ (.int .i64 y)).setCell ⟨bl,i+2,none⟩ (.int .i64 z)).setCell ⟨bc,0,none⟩ (.int .i64 ra)).setCell ⟨bc,1,none⟩ (.int .i64 rb)).setCell ⟨bc,2,none⟩ (.int .i64 rc)=X at *;exact StO.below ⟨q1,q2,q3,r5,q5,by rw[hs];exact h6⟩ (Below.refl _ _).drew
theorem StO.drew(h:StO w W b0 br bl bc vs L r bd pos):StO w W.drew b0 br bl bc vs L r bd pos:=h.below (Below.refl _ _).drew
end
namespace Bm
theorem abn(c V:Nat)(h:c<28):Nj c V≤65535:=by
 unfold Nj;split
 ·omega
 ·have h1:=Nat.mod_lt V (Nat.two_pow_pos (c-12));have h2:2^(c-12)≤2^15:=Nat.pow_le_pow_right (by omega) (by omega);have h3:(2:Nat)^15=32768:=by decide
  omega
theorem abp(a b c n x:Int)(h:xB a b c n=some x):1≤x∧x≤65533:=by
 obtain⟨h1,h2,h3⟩:=Wq a b c n x h;exact LA a b c x (by omega)
def Ka(r:Int×Int×Int):Prop:=(1≤r.1∧r.1≤65533)∧(1≤r.2.1∧r.2.1≤65533)∧(1≤r.2.2∧r.2.2≤65533)
theorem RH(r:Int×Int×Int)(x:Int)(h:Ka r)(hx:1≤x∧x≤65533):Ka (nV r.1 r.2.1 r.2.2 x):=by
 obtain⟨h1,h2,h3⟩:=h;unfold nV;split
 ·exact⟨hx,h2,h3⟩
 ·split
  ·exact⟨hx,h1,h3⟩
  ·exact⟨hx,h1,h2⟩
theorem RP(cs:List (List Nat))(n k:Nat)(h:k<n):(kM cs n).drop k=atD cs k :: (kM cs n).drop (k+1):=by
 have hl:k<(kM cs n).length:=by simpa [kM]using h
 rw[List.drop_eq_getElem_cons hl];simp[kM]
end Bm
theorem Za{r:Int×Int×Int}(h:Ka r):lQ r.1∧lQ r.2.1∧lQ r.2.2:=by
 obtain⟨h1,h2,h3⟩:=h;unfold lQ;omega
def aeW(xs:List Nat):List Value:=[.int .i64 ((xs[0]?.getD 0:Nat):Int),.int .i64 ((xs[1]?.getD 0:Nat):Int),.int .i64 ((xs[2]?.getD 0:Nat):Int)]
theorem QI(xs:List Nat)(v:Nat)(h:xs.length<3):(aeW xs).set xs.length (.int .i64 (v:Int))=aeW (xs++[v]):=by
 match xs,h with
 | [],_=>rfl
 | [a],_=>rfl
 | [a,b],_=>rfl
theorem afe(D:List Bm.Stp)(m k:Nat)(h:D.length=k):(sqs (D++List.replicate (m+1) (0,0,0)))[k*3]?=some (.int .i64 0)∧(sqs (D++List.replicate (m+1) (0,0,0)))[k*3+1]?=some (.int .i64 0)∧(sqs (D++List.replicate (m+1) (0,0,0)))[k*3+2]?=some (.int .i64 0):=by
 have hl:k<(D++List.replicate (m+1) ((0,0,0):Bm.Stp)).length:=by rw[List.length_append,List.length_replicate];omega
 have h1:=AP _ k hl;have e:(D++List.replicate (m+1) ((0,0,0):Bm.Stp))[k]=(0,0,0):=by
  rw[List.getElem_append_right (by omega),List.getElem_replicate]
 rw[e]at h1;exact h1
theorem abT(D:List Bm.Stp)(m k x y z:Nat)(h:D.length=k):(((sqs (D++List.replicate (m+1) (0,0,0))).set (k*3) (.int .i64 (x:Int))).set (k*3+1) (.int .i64 (y:Int))).set (k*3+2) (.int .i64 (z:Int))=sqs ((D++[(x,y,z)])++List.replicate m (0,0,0)):=by
 rw[abU _ k x y z (by rw[List.length_append,List.length_replicate];omega)];congr 1
 rw[List.set_append_right _ _ (by omega),h,Nat.sub_self,List.replicate_succ,List.set_cons_zero,List.append_assoc];rfl
theorem LK(A0 A1 A2 B:Option Addr)(k0 k1 k2 cb n:Nat)(c0 c1 c2 bd:List Nat)(w:World)(hn:n≤1000)(h0:c0.length=n∧∀x∈c0,x<28)(h1:c1.length=n∧∀x∈c1,x<28)(h2:c2.length=n∧∀x∈c2,x<28)
  (hr0:Reads w A0 (u8s c0)) (hr1:Reads w A1 (u8s c1)) (hr2:Reads w A2 (u8s c2)) (hbl:bd.length≤4096) (hblt:∀x∈bd,x<256) (hrb:Reads w B (u8s bd)) :
  Calls prog 113 #[.agg #[.slice A0 n k0,.slice A1 n k1,.slice A2 n k2],.slice B bd.length cb,.int .i64 (n:Int)] w fun e w'=>adO w' e (kg [c0,c1,c2] n bd)∧Below w.heap.size w w':=by
 obtain⟨res,hres⟩:∃res,res=kg [c0,c1,c2] n bd:=⟨_,rfl⟩;rw[←hres];have dQ:=hid hres;obtain⟨W0,hW0⟩:∃W0,w.alloc (.cells #[.slice A0 n k0,.slice A1 n k1,.slice A2 n k2] 108)=W0:=⟨_,rfl⟩;have ra:=Row.new w 108 [.slice A0 n k0,.slice A1 n k1,.slice A2 n k2];have hb0:=(Below.refl w.heap.size w).alloc (Nat.le_refl _) (.cells #[.slice A0 n k0,.slice A1 n k1,.slice A2 n k2] 108);rw[show w.alloc (.cells [Value.slice A0 n k0,.slice A1 n k1,.slice A2 n k2].toArray 108)=W0 from hW0]at ra;have hsz0:W0.heap.size=w.heap.size+1:=by rw[←hW0];simp
 rw[hW0]at hb0;have xH:=hid (pK B cb bd W0 hblt (aC hrb hb0));have HW0:=hid hW0;have Hmk:=hid (fun W=>Qz n (by omega) W);have ado:=hid CK;have Hra:=hid ra;have Hb0:=hid hb0;have aic:=hid hsz0;have HR:=hid (⟨hr0,hr1,hr2⟩:_∧_∧_);have HC:=hid (⟨h0,h1,h2⟩:_∧_∧_);have Ym:=hid hblt;clear hres hW0 ra hb0 hsz0 hr0 hr1 hr2 hrb h0 h1 h2 hblt;go_enter func113,ntmps113
 go_wp2_with fail
 rw[HW0.out];refine xH.out.mono ?_;rintro e w1 ⟨rfl,aaF,hb1⟩;obtain⟨b0,hb0⟩:∃b0,w.heap.size=b0:=⟨_,rfl⟩;obtain⟨br,hbr⟩:∃br,W0.heap.size=br:=⟨_,rfl⟩;obtain⟨bl,agL⟩:∃bl,w1.heap.size=bl:=⟨_,rfl⟩;have Yu:=hid aaF;have Hb1:=hid hb1;have He:=hid (⟨hb0,hbr,agL⟩:_∧_∧_);have hmk:=Hmk.out w1;rw[agL]at hmk;clear aaF hb1 xH HW0 hb0 hbr agL Hmk;go_wp2_with fail
 refine(ado.out _).mono ?_;rintro e w2 ⟨rfl,hb2⟩;obtain⟨bc,hbc⟩:∃bc,w2.heap.size=bc:=⟨_,rfl⟩;have hst:StO w (w2.alloc (.cells #[.int .i64 1,.int .i64 2,.int .i64 4] 154)) b0 br bl bc [.slice A0 n k0,.slice A1 n k1,.slice A2 n k2] (List.replicate n (0,0,0)) (1,2,4) bd 0:=by
  obtain⟨e0,er,el⟩:=He.out;have hs1:=Hb1.out.size;have hs2:=hb2.size;have hbx:=(Below.refl w1.heap.size w1).alloc (Nat.le_refl _) (.cells (sqs (List.replicate n (0,0,0))).toArray 118);have hby:Below w1.heap.size w1 w2:=hbx.trans (hb2.mono hbx.size);have hbz:=hby.alloc hby.size (.cells #[.int .i64 1,.int .i64 2,.int .i64 4] 154);have rl:=Row.new w1 118 (sqs (List.replicate n (0,0,0)));have rc:=Row.new w2 154 [.int .i64 1,.int .i64 2,.int .i64 4];rw[el]at rl;rw[hbc]at rc;have ra:=(Hra.out.below Hb1.out).below hbz;rw[e0]at ra;have rr:=Yu.out.below hbz;rw[er]at rr;have hz:=aic.out;rw[World.size_alloc]at hs2;refine⟨ra,rr,(rl.below hb2).alloc _,rc,(Hb0.out.trans (Hb1.out.mono Hb0.out.size)).trans (hbz.mono (by omega)),?_⟩;rw[World.size_alloc];have hlt1:=Yu.out.2.2.2;rw[er]at hlt1;omega
 have Hst:=hid hst;have Hbc:=hid hbc;clear hb2 hst Yu Hb1 Hra Hb0 hbc aic hmk ado;go_wp2;rw[He.out.1,He.out.2.1,Hbc.out];generalize w2.alloc (.cells #[.int .i64 1,.int .i64 2,.int .i64 4] 154)=wA at *;clear He Hbc;have Hno:=hid (fun c q (W:World) (hc:c<28) (hp:q≤8*bd.length) (hle:8*bd.length-q<exK c) (h:RS W br 0 bd q)=>abG c br q bd W hc (by omega) hp hle h);have adI:=hid (fun c q (W:World) (hc:c<28) (hle:q+exK c≤8*bd.length) (h:RS W br 0 bd q)=>WJ c br q bd W hc (by omega) Ym.out hle h);have uH:=hid (fun q (W:World) (hp:q≤8*bd.length) (h:RS W br 0 bd q)=>Ec br q bd W (by omega) Ym.out hp h);have lM:Hid (res=aak (lG (kM [c0,c1,c2] n) (aV bd) (8*bd.length) (1,2,4))):=hid dQ.out;clear dQ;have hV0:aV bd=aV bd/2^0:=by rw[Nat.pow_zero,Nat.div_one]
 have HV0:=hid hV0;clear hV0 Ym;generalize aV bd=V at *;generalize hL:8*bd.length=L at *;clear hL;go_loopw [11,12,13,14,15,16,17,18,19,27] (fun _ _ _ _ _ _ _ _ _ i wr=>∃(k pos:Nat) (D:List Bm.Stp) (r:Int×Int×Int),i=.int .i64 (k:Int)∧k≤n∧pos≤L∧Hid (D.length=k)∧Hid (Ka r) ∧
  Hid (StO w wr b0 br bl bc [.slice A0 n k0,.slice A1 n k1,.slice A2 n k2] (D++List.replicate (n-k) (0,0,0)) r bd pos) ∧
  Hid (res=aak ((lG ((kM [c0,c1,c2] n).drop k) (V/2^pos) (L-pos) r).map fun q=>(D++q.1,q.2)))) (fun _ _ _ _ _ _ _ _ _ i _=>n-(intOf i).toNat)
 case atStart=>
  refine⟨0,0,[],(1,2,4),rfl,Nat.zero_le _,Nat.zero_le _,hid rfl,hid ⟨by decide,by decide,by decide⟩,Hst,hid ?_⟩;rw[lM.out,List.drop_zero,Nat.sub_zero,←HV0.out];cases lG (kM [c0,c1,c2] n) V L (1,2,4)<;>rfl
 case round=>
  obtain⟨k,pos,D,r,rfl,hk,hpos,hD,hr,hst,hres⟩:=hrel;clear Hst HV0 lM;by_cases hkn:k<n
  ·have dk:decide ((k:Int)<(n:Int))=true:=decide_eq_true (by omega);have Ui:Hid ((kM [c0,c1,c2] n).drop k=atD [c0,c1,c2] k :: (kM [c0,c1,c2] n).drop (k+1)):=hid (RP _ n k hkn);have hsW:=hst.out.low;have hb1:wr.heap.size<wr.heap.size+1:=by omega
   have YO:=hst.out.below ((Below.refl wr.heap.size wr).alloc (Nat.le_refl _) (.cells #[.int .i64 0,.int .i64 0,.int .i64 0] 30));have hrn:=Row.new wr 30 (aeW []);obtain⟨bn,hbn⟩:∃bn,wr.heap.size=bn:=⟨_,rfl⟩;rw[hbn]at hrn hsW;have Zz:=hid YO;have Hrn:=hid hrn;have Hbn:=hid hbn;have akO:bc<bn:=by omega
   obtain⟨a0,a1,a2⟩:=fQ YO.all;clear YO hrn hbn hb1 hst hsW;go_wp2;rw[Hbn.out];have e3:wr.alloc (.cells (aeW []).toArray 30)=wr.alloc (.cells #[.int .i64 0,.int .i64 0,.int .i64 0] 30):=rfl;rw[e3]at Hrn;clear e3;generalize wr.alloc (.cells #[.int .i64 0,.int .i64 0,.int .i64 0] 30)=wB at *;clear Hbn a0 a1 a2;rename World=>wo
   go_loopw [13,14,15,16,31] (fun _ _ _ _ i wr=>∃(j q:Nat) (xs:List Nat),i=.int .i64 (j:Int)∧j≤3∧q≤L∧Hid (xs.length=j)∧Hid (∀x∈xs,x≤65535) ∧
    Hid (StO w wr b0 br bl bc [.slice A0 n k0,.slice A1 n k1,.slice A2 n k2] (D++List.replicate (n-k) (0,0,0)) r bd q)∧Hid (Row wr bn 30 (aeW xs)) ∧
    Hid (oz (atD [c0,c1,c2] k) (V/2^pos) (L-pos)=(oz ((atD [c0,c1,c2] k).drop j) (V/2^q) (L-q)).map fun t=>(xs++t.1,t.2))) (fun _ _ _ _ i _=>3-(intOf i).toNat)
   case atStart=>
    refine⟨0,pos,[],rfl,by omega,hpos,hid rfl,hid (by simp),Zz,Hrn,hid ?_⟩;rw[List.drop_zero];cases oz (atD [c0,c1,c2] k) (V/2^pos) (L-pos)<;>rfl
   case round=>
    obtain⟨j,q,xs,rfl,hj,hq,hxs,afH,hst,hrn,PE⟩:=hrel;clear Zz Hrn;by_cases hj3:j<3
    ·have key:∃(g off c:Nat) (kk:Nat) (A:Option Addr),Hid ([Value.slice A0 n k0,.slice A1 n k1,.slice A2 n k2][j]?=some (.slice A n kk))∧A=some ⟨g,off,none⟩∧wr.cell? ⟨g,off+k,none⟩=some (.int .u8 (c:Int))∧c<28∧Hid ((atD [c0,c1,c2] k).drop j=c :: (atD [c0,c1,c2] k).drop (j+1)):=by
      obtain⟨hc0,hc1,hc2⟩:=HC.out;obtain⟨r0,r1,r2⟩:=HR.out;have one:∀(A:Option Addr) (cs:List Nat),(cs.length=n∧∀x∈cs,x<28)→Reads w A (u8s cs)→∃g off,A=some ⟨g,off,none⟩∧∃c:Nat,wr.cell? ⟨g,off+k,none⟩=some (.int .u8 (c:Int))∧c<28∧cs[k]?.getD 0=c:=fun A cs h hr=>by
       have hkl:k<cs.length:=by omega
       obtain⟨g,off,e,hc⟩:=fO (aC hr hst.out.bel) (by intro e;rw[e]at hkl;simp at hkl);exact⟨g,off,e,cs[k],hc k hkl,h.2 _ (List.getElem_mem hkl),by rw[List.getElem?_eq_getElem hkl];rfl⟩
      rcases(by omega:j=0∨j=1∨j=2)with rfl | rfl | rfl
      ·obtain⟨g,off,e,c,h1,h2,h3⟩:=one A0 c0 hc0 r0;exact⟨g,off,c,k0,A0,rfl,e,h1,h2,hid (by simp only[atD,List.map_cons,List.map_nil,List.drop_succ_cons,List.drop_zero,h3])⟩
      ·obtain⟨g,off,e,c,h1,h2,h3⟩:=one A1 c1 hc1 r1;exact⟨g,off,c,k1,A1,rfl,e,h1,h2,hid (by simp only[atD,List.map_cons,List.map_nil,List.drop_succ_cons,List.drop_zero,h3])⟩
      ·obtain⟨g,off,e,c,h1,h2,h3⟩:=one A2 c2 hc2 r2;exact⟨g,off,c,k2,A2,rfl,e,h1,h2,hid (by simp only[atD,List.map_cons,List.map_nil,List.drop_succ_cons,List.drop_zero,h3])⟩
     obtain⟨g,off,c,kk,A,hidx,rfl,hcell,hc28,hdrop⟩:=key;have xS:=hid PE.out;rw[hdrop.out,oz]at xS;have hidx2:∀W,(Instr.index 108 (.agg #[.slice A0 n k0,.slice A1 n k1,.slice A2 n k2]) (.int .i64 (j:Int))).run prog W=.ok (.slice (some ⟨g,off,none⟩) n kk) W:=fun W=>by
      have h:=hidx.out;rcases(by omega:j=0∨j=1∨j=2)with rfl | rfl | rfl
      all_goals
       simp only[List.getElem?_cons_zero,List.getElem?_cons_succ,Option.some.injEq]at h;rw[h];simp[Instr.index,run_underlying underlying108,asIntOf,go_sem]
     clear hidx PE hdrop;by_cases hfit:q+exK c≤L
     ·rw[if_pos (by omega)]at xS;have bB:=hid (adI.out c q wr hc28 hfit hst.out.rd);have hv:=abn c (V/2^q) hc28;rw[Nat.div_div_eq_div_mul,←Nat.pow_add,Nat.sub_sub]at xS;obtain⟨v,hvv⟩:∃v,v=Nj c (V/2^q):=⟨_,rfl⟩;obtain⟨q2,hq2⟩:∃q2,q2=q+exK c:=⟨_,rfl⟩;rw[←hvv]at bB xS hv;rw[←hq2]at bB xS hfit;have kW:=hid (hst.out);have agf:=hid (hrn.out);clear hvv hq2 hst hrn Hno adI;go_wp2_with fail
      refine bB.out.mono ?_;rintro e w3 ⟨rfl,PN,hg3⟩;have TU:=kW.out.read hg3 PN;have hlow:=kW.out.low;have afG:=agf.out.keep (hg3.block bn agf.out.lt (by simp;omega));have kY:=TU.far (p:=⟨bn,j,none⟩) akO (.int .i64 (v:Int));have agY:=afG.aY j (.int .i64 (v:Int));rw[←hxs.out,QI xs v (by rw[hxs.out];exact hj3),hxs.out]at agY;have f0:=afG.free j;have hsome:∃u,w3.cell? ⟨bn,j,none⟩=some u:=by
       rw[afG.cell];rcases(by omega:j=0∨j=1∨j=2)with rfl | rfl | rfl<;>exact⟨_,rfl⟩
      obtain⟨u0,hu0⟩:=hsome;have uJ:=hid kY;have akp:=hid agY;have alS:(j:Int)<3:=by omega
      clear PN hg3 TU afG kY agY kW agf hlow bB;go_wp2;go_roundw
      case rel=>
       refine⟨j+1,q2,xs++[v],by go_num,by omega,hfit,hid (by rw[List.length_append,hxs.out];rfl),hid (fun x hx=>?_),uJ,akp,hid ?_⟩
       ·rcases List.mem_append.1 hx with hx | hx
        ·exact afH.out x hx
        ·rw[List.mem_singleton.1 hx];exact hv
       ·rw[xS.out];cases oz ((atD [c0,c1,c2] k).drop (j+1)) (V/2^q2) (L-q2)<;>simp
      case measure=>simp[intOf];omega
     ·rw[if_neg (by omega)]at xS;have bB:=hid (Hno.out c q wr hc28 hq (by omega) hst.out.rd);have gT:Hid (res=none):=hid (by rw[hres.out,Ui.out,lG,xS.out];rfl);have kW:=hid (⟨hst.out.bel,hst.out.low⟩:_∧_);clear xS Hno adI uH hfit hst hrn hres Ui HC HR;go_wp2_with fail
      refine bB.out.mono ?_;rintro e w3 ⟨⟨v,rfl⟩,hg3⟩;have Hb3:=hid (kW.out.1.grown hg3 kW.out.1.size (fun x e=>by injection e with e;have:=kW.out.2;omega));clear hg3 bB;go_wp2;go_ret2;rw[gT.out];exact⟨⟨_,_,rfl⟩,Hb3.out⟩
    ·have aav:j=3:=by omega
     subst aav;have xS:=hid PE.out;rw[show(atD [c0,c1,c2] k).drop 3=[]from rfl,oz,Option.map_some,List.append_nil]at xS;obtain⟨l,m,o,aln⟩:∃l m o,xs=[l,m,o]:=by
      match xs,hxs.out with
      | [l,m,o],_=>exact⟨l,m,o,rfl⟩
     subst aln;have hm:m≤65535:=afH.out m (by simp);have ho:o≤65535:=afH.out o (by simp);have ajj:Row wr bn 30 [.int .i64 (l:Int),.int .i64 (m:Int),.int .i64 (o:Int)]:=hrn.out;obtain⟨x0,x1,x2⟩:=fQ ajj;obtain⟨y0,y1,y2⟩:=fQ hst.out.RG;obtain⟨hra,hrb,hrc⟩:=Za hr.out;have xI:=hid hres.out;rw[Ui.out,lG,xS.out]at xI;simp only[List.getElem?_cons_zero,List.getElem?_cons_succ,Option.getD_some]at xI;have kW:=hid hst.out;clear hres xS PE hrn ajj hst afH hxs Hno adI Ui;cases hoff:xB r.1 r.2.1 r.2.2 (o:Int)with
     | none=>
      rw[hoff]at xI;have bB:=hid (fun W=>WQ W r.1 r.2.1 r.2.2 l m o hra hrb hrc hm ho hoff);have gT:Hid (res=none):=hid xI.out;have acB:=hid (⟨kW.out.bel,kW.out.low⟩:_∧_);clear hoff xI kW uH HC HR hra hrb hrc hr;generalize r.1=ra at *;generalize r.2.1=rb at *;generalize r.2.2=rc at *;generalize m+3=m3 at *;go_wp2_with fail
      refine(bB.out _).mono ?_;rintro e w3 ⟨rfl,hb3⟩;have Hb3:=hid ((((acB.out.1.trans (hb3.mono acB.out.1.size)).alloc (acB.out.1.trans (hb3.mono acB.out.1.size)).size (.cells #[.int .i64 (l:Int),.int .i64 (m3:Int),.int .i64 0] 118)).alloc (by have:=(acB.out.1.trans (hb3.mono acB.out.1.size)).size;simp;omega) (.cells #[.int .i64 ra,.int .i64 rb,.int .i64 rc] 154)));clear hb3 bB;go_wp2;go_ret2;rw[gT.out];exact⟨⟨_,_,rfl⟩,Hb3.out⟩
     | some x=>
      rw[hoff]at xI;dsimp only at xI;have hx:=abp _ _ _ _ _ hoff;have bB:=hid (fun W=>Rw W r.1 r.2.1 r.2.2 x l m o hra hrb hrc hm ho hoff);have adC:=hid (RH r x hr.out hx);obtain⟨⟨ra,rb,rc⟩,hr2⟩:∃r2,r2=nV r.1 r.2.1 r.2.2 x:=⟨_,rfl⟩;rw[←hr2]at bB adC xI;dsimp only at bB;clear hoff hr2 hra hrb hrc hr;obtain⟨x',rfl⟩:∃x':Nat,x=(x':Int):=⟨x.toNat,by omega⟩;rw[Int.toNat_natCast]at xI;have hlow:=kW.out.low;go_wp2_with fail
      refine(bB.out _).mono ?_;rintro e w3 ⟨rfl,hb3⟩;have TU:=kW.out.below hb3;obtain⟨bs,hbs⟩:∃bs,w3.heap.size=bs:=⟨_,rfl⟩;obtain⟨bt,hbt⟩:∃bt,w3.heap.size+1=bt:=⟨_,rfl⟩;have aay:=TU.low;have rs:=(Row.new w3 118 [.int .i64 (l:Int),.int .i64 ((m+3:Nat):Int),.int .i64 (x':Int)]).alloc (.cells #[.int .i64 ra,.int .i64 rb,.int .i64 rc] 154);have rt:=Row.new (w3.alloc (.cells #[.int .i64 (l:Int),.int .i64 ((m+3:Nat):Int),.int .i64 (x':Int)] 118)) 154 [.int .i64 ra,.int .i64 rb,.int .i64 rc];rw[World.size_alloc,hbt]at rt;rw[hbs]at rs;have kY:=(TU.below ((Below.refl w3.heap.size w3).alloc (Nat.le_refl _) (.cells #[.int .i64 (l:Int),.int .i64 ((m+3:Nat):Int),.int .i64 (x':Int)] 118))).below ((Below.refl _ (w3.alloc (.cells #[.int .i64 (l:Int),.int .i64 ((m+3:Nat):Int),.int .i64 (x':Int)] 118))).alloc (Nat.le_refl _) (.cells #[.int .i64 ra,.int .i64 rb,.int .i64 rc] 154));have uJ:=hid kY;have Hrs:=hid rs;have Hrt:=hid rt;have Hbs:=hid hbs;have Hbt:=hid hbt;have hlt:bc<bs∧bc<bt:=by omega
      clear hb3 TU kY rs rt hbs hbt aay bB kW x0 x1 x2 y0 y1 y2;generalize m+3=m3 at *;obtain⟨d,hd⟩:∃d,n-k=d+1:=⟨n-k-1,by omega⟩;rw[hd]at uJ;have Hd:=hid (show n-(k+1)=d by omega);clear hd;go_wp2_with fail
      rw[Hbt.out,Hbs.out];obtain⟨x0,x1,x2⟩:=fQ Hrs.out;obtain⟨x3,x4,x5⟩:=fQ Hrt.out;obtain⟨y0,y1,y2⟩:=fQ uJ.out.RG;have g0:=uJ.out.RG.free 0;have g1:=uJ.out.RG.free 1;have g2:=uJ.out.RG.free 2;obtain⟨z0,z1,z2⟩:=afe D d k hD.out;have v0:=(uJ.out.row.cell (k*3)).trans z0;have v1:=(uJ.out.row.cell (k*3+1)).trans z1;have v2:=(uJ.out.row.cell (k*3+2)).trans z2;have q0:=uJ.out.row.free (k*3);have q1:=uJ.out.row.free (k*3+1);have q2':=uJ.out.row.free (k*3+2);have agR:=uJ.out.low;have n1:bs≠bl:=by omega
      have n2:bs≠bc:=by omega
      have n3:bt≠bl:=by omega
      have n4:bt≠bc:=by omega
      have n5:bl≠bc:=by omega
      have n6:bc≠bl:=by omega
      generalize (w3.alloc (.cells #[.int .i64 (l:Int),.int .i64 (m3:Int),.int .i64 (x':Int)] 118)).alloc (.cells #[.int .i64 ra,.int .i64 rb,.int .i64 rc] 154)=wD at *;have hput:=abT D d k l m3 x' hD.out;have hrow2:=((uJ.out.row.aY (k*3) (.int .i64 (l:Int))).aY (k*3+1) (.int .i64 (m3:Int))).aY (k*3+2) (.int .i64 (x':Int));rw[hput]at hrow2;have dI:=hid hrow2;clear z0 z1 z2 Hrs Hrt Hbs Hbt hput hrow2;go_region
      have acL:=uJ.out.put (k*3) l m3 x' ra rb rc dI.out;have ZA:=hid acL;clear acL dI uJ x0 x1 x2 x3 x4 x5 y0 y1 y2 v0 v1 v2 q0 q1 q2' g0 g1 g2 agR;generalize (((((wD.setCell ⟨bl,k*3,none⟩ (.int .i64 (l:Int))).setCell ⟨bl,k*3+1,none⟩ (.int .i64 (m3:Int))).setCell ⟨bl,k*3+2,none⟩ (.int .i64 (x':Int))).setCell ⟨bc,0,none⟩ (.int .i64 ra)).setCell ⟨bc,1,none⟩ (.int .i64 rb)).setCell ⟨bc,2,none⟩ (.int .i64 rc)=wE at *;generalize wE.drew=wF at *;go_wp2;go_roundw
      case rel=>
       refine⟨k+1,q,D++[(l,m3,x')],(ra,rb,rc),by go_num,by omega,hq,hid (by rw[List.length_append,hD.out];rfl),adC,by rw[Hd.out];exact ZA,hid ?_⟩;rw[xI.out];cases lG ((kM [c0,c1,c2] n).drop (k+1)) (V/2^q) (L-q) (ra,rb,rc)<;>simp
      case measure=>simp[intOf];omega
  ·have hkn':k=n:=by omega
   subst hkn';have dk:decide ((k:Int)<(k:Int))=false:=decide_eq_false (by omega);have Hr2:=hid hres.out;rw[show(kM [c0,c1,c2] k).drop k=[]from List.drop_of_length_le (by simp[kM]),lG,Option.map_some,List.append_nil]at Hr2;unfold aak at Hr2;dsimp only at Hr2;have bB:=hid (uH.out pos wr hpos hst.out.rd);have kW:=hid hst.out;rw[Nat.sub_self,List.replicate_zero,List.append_nil]at kW;clear hres hst Hno adI uH HC HR hr;by_cases hend:L-pos<8∧V/2^pos=0
   ·rw[if_pos hend]at Hr2;rw[decide_eq_true hend]at bB;clear hend;go_wp2_with fail
    refine bB.out.mono ?_;rintro e w3 ⟨rfl,hg3⟩;have hlow:=kW.out.low;have hrow:=kW.out.row.keep (hg3.block bl kW.out.row.lt (by simp;omega));have Hb3:=hid (kW.out.bel.grown hg3 kW.out.bel.size (fun x e=>by injection e with e;omega));have Hrd:Hid (Bj w3 (some ⟨bl,0,none⟩) D):=hid (fun _=>⟨bl,0,rfl,hrow.lt,fun j hj=>by
     obtain⟨s0,s1,s2⟩:=AP D j hj;rw[Nat.zero_add,hrow.cell,hrow.cell,hrow.cell];exact⟨s0,s1,s2⟩⟩)
    clear hg3 hrow bB kW hlow;go_wp2;go_ret2;rw[Hr2.out];exact⟨⟨some ⟨bl,0,none⟩,k,by rw[hD.out];rfl,Hrd.out⟩,Hb3.out⟩
   ·rw[if_neg hend]at Hr2;rw[decide_eq_false hend]at bB;clear hend;go_wp2_with fail
    refine bB.out.mono ?_;rintro e w3 ⟨rfl,hg3⟩;have hlow:=kW.out.low;have Hb3:=hid (kW.out.bel.grown hg3 kW.out.bel.size (fun x e=>by injection e with e;omega));clear hg3 bB kW hlow;go_wp2;go_ret2;rw[Hr2.out];exact⟨⟨_,_,rfl⟩,Hb3.out⟩
namespace Bm
def xk(N:List (List Nat))(vs:List Nat)(j:Nat):List Nat:=cK j N++(vs[j]?).toList.map kF
theorem Us(N:List (List Nat))(j:Nat):xk N [] j=cK j N:=by simp[xk]
theorem NI(N:List (List Nat))(vs:List Nat):xk N vs vs.length=cK vs.length N:=by simp[xk]
theorem NJ(N:List (List Nat))(vs:List Nat)(v:Nat):xk N (vs++[v]) vs.length=xk N vs vs.length++[kF v]:=by
 rw[NI];simp[xk]
theorem Kc(N:List (List Nat))(vs:List Nat)(v:Nat)(j:Nat)(h:j≠vs.length):xk N (vs++[v]) j=xk N vs j:=by
 unfold xk;rcases Nat.lt_or_ge j vs.length with h1 | h1
 ·rw[List.getElem?_append_left h1]
 ·rw[List.getElem?_eq_none (by rw[List.length_append,List.length_singleton];omega),List.getElem?_eq_none h1]
theorem Uq(N:List (List Nat))(vs:List Nat)(j:Nat)(h:j<vs.length):xk N vs j=cK j (N++[vs]):=by
 unfold xk cK;rw[List.getElem?_eq_getElem h,List.map_append];simp[h]
theorem Ur(N:List (List Nat))(vs:List Nat)(j:Nat):(xk N vs j).length≤N.length+1:=by
 unfold xk cK;rw[List.length_append,List.length_map,List.length_map];cases vs[j]?<;>simp
theorem Yb(m:Int)(h:-9223372036854775808≤m∧m≤9223372036854775807):-9223372036854775808≤IntKind.i64.wrap (m-3)∧IntKind.i64.wrap (m-3)≤9223372036854775807:=by
 by_cases h1:-9223372036854775808≤m-3
 ·rw[IntWalk.i64_in _ (by omega)];omega
 ·have:m=-9223372036854775808∨m=-9223372036854775807∨m=-9223372036854775806:=by omega
  rcases this with rfl | rfl | rfl<;>decide
theorem ahr(m:Int)(h:-9223372036854775808≤m∧m≤9223372036854775807):(3≤m∧m≤65538→IntKind.i64.wrap (m-3)=m-3)∧(0≤IntKind.i64.wrap (m-3)∧IntKind.i64.wrap (m-3)≤65535→3≤m∧m≤65538):=by
 refine⟨fun hm=>IntWalk.i64_in _ (by omega),fun hw=>?_⟩;by_cases h1:-9223372036854775808≤m-3
 ·rw[IntWalk.i64_in _ (by omega)]at hw;omega
 ·exfalso
  have:m=-9223372036854775808∨m=-9223372036854775807∨m=-9223372036854775806:=by omega
  rcases this with rfl | rfl | rfl
  ·have e:IntKind.i64.wrap (-9223372036854775808-3)=9223372036854775805:=by decide
   rw[e]at hw;omega
  ·have e:IntKind.i64.wrap (-9223372036854775807-3)=9223372036854775806:=by decide
   rw[e]at hw;omega
  ·have e:IntKind.i64.wrap (-9223372036854775806-3)=9223372036854775807:=by decide
   rw[e]at hw;omega
end Bm
theorem xE.congr{w:World}{base:Nat}{vs:List Value}{L L':Nat→List Nat}(h:xE w base vs L)(hL:∀s,s<vs.length→L' s=L s):xE w base vs L':=
 ⟨fun s v hv=>by rw[hL s (List.getElem?_eq_some_iff.1 hv).1];exact h.own s v hv,h.apart⟩
structure CoO(w W:World)(B b2 b5 b6 b7:Nat)(us:List Value)(P:Nat→List Nat)(F:List Nat)(r:Int×Int×Int):Prop where
 res:Row W b2 108 [.slice none 0 0,.slice none 0 0,.slice none 0 0]
 all:Row W b5 108 us
 len:us.length=3
 fam:xE W B us P
 wr:WS W b6 0 (bG F).1 (bG F).2
 RG:Row W b7 154 [.int .i64 r.1,.int .i64 r.2.1,.int .i64 r.2.2]
 bel:Below w.heap.size w W
 low:w.heap.size≤b2∧b2<b5∧b5<b6∧b6<b7∧b7<B∧B≤W.heap.size
section
variable {w W W':World} {B b2 b5 b6 b7:Nat} {us:List Value} {P:Nat→List Nat} {F:List Nat} {r:Int×Int×Int}
theorem CoO.below(h:CoO w W B b2 b5 b6 b7 us P F r)(hb:Below W.heap.size W W'):CoO w W' B b2 b5 b6 b7 us P F r:=by
 obtain⟨h1,h2,h3,h4,h5,h6,h7,h8⟩:=h;exact⟨h1.below hb,h2.below hb,h3,h4.below hb,h5.below hb,h6.below hb,h7.trans (hb.mono h7.size),by have:=hb.size;omega⟩
theorem CoO.congr(h:CoO w W B b2 b5 b6 b7 us P F r){P':Nat→List Nat}(hP:∀s,s<3→P' s=P s):CoO w W B b2 b5 b6 b7 us P' F r:=by
 obtain⟨h1,h2,h3,h4,h5,h6,h7,h8⟩:=h;exact⟨h1,h2,h3,h4.congr (fun s hs=>hP s (by omega)),h5,h6,h7,h8⟩
theorem CoO.put(h:CoO w W B b2 b5 b6 b7 us P F r){F':List Nat}(hg:W.grownBy W' (some b6))(hw:WS W' b6 0 (bG F').1 (bG F').2):CoO w W' B b2 b5 b6 b7 us P F' r:=by
 obtain⟨h1,h2,h3,h4,_,h6,h7,h8⟩:=h;refine⟨h1.keep (hg.block _ (by omega) (by simp;omega)),h2.keep (hg.block _ (by omega) (by simp;omega)),h3,⟨fun s v hv=>(h4.own s v hv).kept hg ?_,h4.apart⟩,hw,h6.keep (hg.block _ (by omega) (by simp;omega)),h7.grown hg h7.size (fun x e=>by injection e with e;omega),by have:=hg.size;omega⟩;rcases hq:v.ownBlock with _ | q
 ·exact .inl rfl
 ·have:=((h4.own s v hv).lt q hq).1;exact .inr (by simp;omega)
theorem CoO.turn(h:CoO w W B b2 b5 b6 b7 us P F r)(a b c:Int):CoO w (((W.setCell ⟨b7,0,none⟩ (.int .i64 a)).setCell ⟨b7,1,none⟩ (.int .i64 b)).setCell ⟨b7,2,none⟩ (.int .i64 c)) B b2 b5 b6 b7 us P F (a,b,c):=by
 obtain⟨h1,h2,h3,h4,h5,h6,h7,h8⟩:=h;have e1:∀(W:World) i u {t cs},Row W b2 t cs→Row (W.setCell ⟨b7,i,none⟩ u) b2 t cs:=fun W i u t cs h=>h.far (by show b2≠b7;omega) u
 have e2:∀(W:World) i u {t cs},Row W b5 t cs→Row (W.setCell ⟨b7,i,none⟩ u) b5 t cs:=fun W i u t cs h=>h.far (by show b5≠b7;omega) u
 have e3:∀(W:World) i u,uL W b7 192→WS W b6 0 (bG F).1 (bG F).2→WS (W.setCell ⟨b7,i,none⟩ u) b6 0 (bG F).1 (bG F).2:=fun W i u hn h=>h.keep (dV W ⟨b7,i,none⟩ u) (by simp;omega) (fun g e=>by injection e with e;rw[←e];exact hn)
 have hn0:=h6.Jh (u:=192) (by decide);have hn1:=hn0.setCell ⟨b7,0,none⟩ (.int .i64 a);have hn2:=hn1.setCell ⟨b7,1,none⟩ (.int .i64 b);have e4:∀(W:World) i u,xE W B us P→xE (W.setCell ⟨b7,i,none⟩ u) B us P:=fun W i u h=>h.far (fun s v hv e=>by have:=((h.own s v hv).lt _ e).1;dsimp only at this;omega) u
 have r4:=((h6.aY 0 (.int .i64 a)).aY 1 (.int .i64 b)).aY 2 (.int .i64 c);simp only[List.set_cons_zero,List.set_cons_succ]at r4;have q1:=e1 _ 2 (.int .i64 c) (e1 _ 1 (.int .i64 b) (e1 _ 0 (.int .i64 a) h1));have q2:=e2 _ 2 (.int .i64 c) (e2 _ 1 (.int .i64 b) (e2 _ 0 (.int .i64 a) h2));have q3:=e3 _ 2 (.int .i64 c) hn2 (e3 _ 1 (.int .i64 b) hn1 (e3 _ 0 (.int .i64 a) hn0 h5));have q4:=e4 _ 2 (.int .i64 c) (e4 _ 1 (.int .i64 b) (e4 _ 0 (.int .i64 a) h4));have q5:=((h7.setCell (p:=⟨b7,0,none⟩) (by show w.heap.size≤b7;omega) (.int .i64 a)).setCell (p:=⟨b7,1,none⟩) (by show w.heap.size≤b7;omega) (.int .i64 b)).setCell (p:=⟨b7,2,none⟩) (by show w.heap.size≤b7;omega) (.int .i64 c);exact⟨q1,q2,h3,q4,q3,r4,q5,by simpa [World.setCell]using h8⟩
theorem CoO.app(h:CoO w W B b2 b5 b6 b7 us P F r){P':Nat→List Nat}{j:Nat}{u:Value}(hu:us[j]?=some u){g n cap:Nat}(hg:W.grownBy W' u.ownBlock)(hat:u.ownBlock=some g∨g=W.heap.size)
  (hown:W'.ownsRow B 5 1 (.slice (some ⟨g,0,none⟩) n cap) n (u8s (P' j))) (hn:(P' j).length=n) (hL:∀t,t≠j→P' t=P t) :
  CoO w (W'.setCell ⟨b5,j,none⟩ (.slice (some ⟨g,0,none⟩) n cap)) B b2 b5 b6 b7 (us.set j (.slice (some ⟨g,0,none⟩) n cap)) P' F r:=by
 obtain⟨h1,h2,h3,h4,h5,h6,h7,h8⟩:=h;have hlo:∀q,u.ownBlock=some q→B≤q∧q<W.heap.size:=fun q e=>(h4.own j u hu).lt q e
 have hne:∀b,b<B→u.ownBlock≠some b:=fun b hb e=>by have:=(hlo b e).1;omega
 have k1:=(h1.keep (hg.block _ (by omega) (fun e=>hne b2 (by omega) e.symm))).far (p:=⟨b5,j,none⟩) (by show b2≠b5;omega) (.slice (some ⟨g,0,none⟩) n cap);have k2:=(h2.keep (hg.block _ (by omega) (fun e=>hne b5 (by omega) e.symm))).aY j (.slice (some ⟨g,0,none⟩) n cap);have k2':=(h2.keep (hg.block _ (by omega) (fun e=>hne b5 (by omega) e.symm))).Jh (u:=192) (by decide);have k4:=xE.push (L':=P') h4 hu hg hat hown hn hL;have k5:WS W' b6 0 (bG F).1 (bG F).2:=h5.keep hg (hne b6 (by omega)) (fun q e=>by
  obtain⟨c,fz,hk⟩:=Lib.ownsRow_kind (h4.own j u hu) q e;exact⟨c,5,fz,hk,by decide⟩)
 have k5':=k5.keep (dV W' ⟨b5,j,none⟩ (.slice (some ⟨g,0,none⟩) n cap)) (by simp;omega) (fun q e=>by injection e with e;rw[←e];exact k2');have k6:=(h6.keep (hg.block _ (by omega) (fun e=>hne b7 (by omega) e.symm))).far (p:=⟨b5,j,none⟩) (by show b7≠b5;omega) (.slice (some ⟨g,0,none⟩) n cap);have k7:=(h7.grown hg h7.size (fun q e=>by have:=(hlo q e).1;omega)).setCell (p:=⟨b5,j,none⟩) (by show w.heap.size≤b5;omega) (.slice (some ⟨g,0,none⟩) n cap);have k4':=k4.far (p:=⟨b5,j,none⟩) (fun s v hv e=>by have:=((k4.own s v hv).lt _ e).1;dsimp only at this;omega) (.slice (some ⟨g,0,none⟩) n cap);exact⟨k1,k2,by rw[List.length_set];exact h3,k4',k5',k6,k7,by have:=hg.size;simpa [World.setCell]using (by omega:w.heap.size≤b2∧b2<b5∧b5<b6∧b6<b7∧b7<B∧B≤W'.heap.size)⟩
end
namespace Bm
theorem YZ:∀(l:List StZ) (r:Int×Int×Int),Ka r→(∀s∈l,Ee s)→Ka (AB r l)
 | [],_,h,_=>h
 | s :: l,r,h,hm=>by
  have hs:=hm s List.mem_cons_self;rw[AB];exact YZ l _ (RH r s.2.2 h ⟨hs.2.2.2.2.1,hs.2.2.2.2.2⟩) (fun x hx=>hm x (List.mem_cons_of_mem _ hx))
end Bm
theorem Ti(w:World)(t0 t1 t2:TypeId)(l0 l1 l2:List Value):∃W b0 b1 b2,((w.alloc (.cells l0.toArray t0)).alloc (.cells l1.toArray t1)).alloc (.cells l2.toArray t2)=W ∧
  w.heap.size=b0∧w.heap.size+1=b1∧w.heap.size+1+1=b2∧W.heap.size=b2+1∧Row W b0 t0 l0∧Row W b1 t1 l1∧Row W b2 t2 l2∧Below w.heap.size w W:=by
 have h0:=Row.new w t0 l0;have h1:=Row.new (w.alloc (.cells l0.toArray t0)) t1 l1;have h2:=Row.new ((w.alloc (.cells l0.toArray t0)).alloc (.cells l1.toArray t1)) t2 l2;have k1:(w.alloc (.cells l0.toArray t0)).heap.size=w.heap.size+1:=by simp
 have k2:((w.alloc (.cells l0.toArray t0)).alloc (.cells l1.toArray t1)).heap.size=w.heap.size+1+1:=by simp
 rw[k1]at h1;rw[k2]at h2;exact⟨_,_,_,_,rfl,rfl,rfl,rfl,by simp,(h0.alloc _).alloc _,h1.alloc _,h2,
  (((Below.refl w.heap.size w).alloc (Nat.le_refl _) _).alloc (by simp) _).alloc (by simp;omega) _⟩
theorem PX(x y z:Int)(W:World):(Instr.index 30 (.agg #[.int .i64 x,.int .i64 y,.int .i64 z]) (.int .i64 0)).run prog W=.ok (.int .i64 x) W ∧
  (Instr.index 30 (.agg #[.int .i64 x,.int .i64 y,.int .i64 z]) (.int .i64 1)).run prog W=.ok (.int .i64 y) W∧(Instr.index 30 (.agg #[.int .i64 x,.int .i64 y,.int .i64 z]) (.int .i64 2)).run prog W=.ok (.int .i64 z) W:=by
 refine⟨?_,?_,?_⟩
 all_goals
  simp[Instr.index,run_underlying underlying30,asIntOf,go_sem]
theorem PY(x y z u:Int)(j:Nat)(h:[x,y,z][j]?=some u)(W:World):(Instr.index 30 (.agg #[.int .i64 x,.int .i64 y,.int .i64 z]) (.int .i64 (j:Int))).run prog W=.ok (.int .i64 u) W:=by
 obtain⟨h0,h1,h2⟩:=PX x y z W;match j,h with
 | 0,h=>simp at h;subst h;exact h0
 | 1,h=>simp at h;subst h;exact h1
 | 2,h=>simp at h;subst h;exact h2
theorem uq(b v:Nat)(F:List Nat)(W:World)(hv:v≤65535)(hF:∀x∈F,x≤65535)(hl:F.length≤10000)(h:WS W b 0 (bG F).1 (bG F).2) :
  Calls prog 99 #[.pointer (some ⟨b,0,none⟩),.int .u32 (jV v:Int),.int .i64 (fU v:Int)] W fun e w'=>e=.returned (.bool true)∧WS w' b 0 (bG (F++[v])).1 (bG (F++[v])).2∧W.grownBy w' (some b):=by
 obtain⟨_,h2,h3,_⟩:=lX v hv;have h4:=tN F hF;have h1:=pW b 0 (bG F).1 (bG F).2 (jV v) (fU v) W (by omega) (by omega) (by omega) h;rw[Nat.mod_eq_of_lt (FB v)]at h1;rw[xY];exact h1
def lK(w':World)(e:Ending)(l:List StZ):Prop:=
 if ∀s∈l,Ee s then ∃A0 k0 A1 k1 A2 k2 A k,e=.returned (.tuple #[.agg #[.slice A0 l.length k0,.slice A1 l.length k1,.slice A2 l.length k2],.slice A (dJ (aP (1,2,4) l)).length k,.bool true]) ∧
  l.length≤k0∧l.length≤k1∧l.length≤k2∧Reads w' A0 (u8s (cK 0 (aP (1,2,4) l)))∧Reads w' A1 (u8s (cK 1 (aP (1,2,4) l)))∧Reads w' A2 (u8s (cK 2 (aP (1,2,4) l)))∧Reads w' A (u8s (dJ (aP (1,2,4) l)))
 else e=.returned (.tuple #[.agg #[.slice none 0 0,.slice none 0 0,.slice none 0 0],.slice none 0 0,.bool false])
theorem LH(A:Option Addr)(c:Nat)(l:List StZ)(w:World)(hl:l.length≤700)(hok:ZOk l)(hr:TR w A l) :
  Calls prog 61 #[.slice A l.length c] w fun e w'=>lK w' e l∧Below w.heap.size w w':=by
 obtain⟨i0,hi,hy0,hy1,hy2⟩:=info_parts iV;obtain⟨Pst,Pm⟩:∃Pst:World→Ending→Prop,Pst=fun w' e=>lK w' e l:=⟨_,rfl⟩
 have Yk:=hid Pm;have hgoal:(fun(e:Ending) (w':World)=>lK w' e l∧Below w.heap.size w w')=fun e w'=>Pst w' e∧Below w.heap.size w w':=by rw[Pm]
 rw[hgoal];clear hgoal Pm;have Hr:=hid hr;have Hok:=hid hok;have ado:=hid CK;have Hcy:=hid (fun(v:Nat) (h:v≤65535) (W:World)=>IQ.1 W v h);have Hcn:=hid (fun(z:Int) (h0:lQ z) (h:z<0∨65535<z) (W:World)=>IQ.2 W z h0 h);clear hr hok;go_enter func61,ntmps61
 go_wp2_with fail
 obtain⟨W3,b2,b5,b6,hW3,e2,e5,e6,es,r2,r5,r6,KN⟩:=Ti w 108 108 153 [.slice none 0 0,.slice none 0 0,.slice none 0 0] [.slice none 0 0,.slice none 0 0,.slice none 0 0] [.pointer none,.int .u64 0,.int .i64 0];have hws:WS W3 b6 0 0 0:=by
  have h:=WS.new ((w.alloc (.cells #[.slice none 0 0,.slice none 0 0,.slice none 0 0] 108)).alloc (.cells #[.slice none 0 0,.slice none 0 0,.slice none 0 0] 108)) 153 (by decide);rw[hW3]at h;rw[←e6];have hs:((w.alloc (.cells #[.slice none 0 0,.slice none 0 0,.slice none 0 0] 108)).alloc (.cells #[.slice none 0 0,.slice none 0 0,.slice none 0 0] 108)).heap.size=w.heap.size+1+1:=by simp
  rw[hs]at h;exact h
 rw[hW3,e6,e5,e2];refine(ado.out _).mono ?_;rintro e w2 ⟨rfl,hb2⟩;obtain⟨b7,hb7⟩:∃b7,w2.heap.size=b7:=⟨_,rfl⟩;obtain⟨B,hB⟩:∃B,b7+1=B:=⟨_,rfl⟩;have hal:=(Below.refl w2.heap.size w2).alloc (Nat.le_refl _) (.cells #[.int .i64 1,.int .i64 2,.int .i64 4] 154);have r7:=Row.new w2 154 [.int .i64 1,.int .i64 2,.int .i64 4];rw[hb7]at r7;have hst:CoO w (w2.alloc (.cells #[.int .i64 1,.int .i64 2,.int .i64 4] 154)) B b2 b5 b6 b7 (List.replicate 3 (.slice none 0 0)) (fun j=>cK j []) [] (1,2,4):=by
  have hs2:=hb2.size;refine⟨(r2.below hb2).below hal,(r5.below hb2).below hal,rfl,xE.ahj _ _ _ (fun s=>by simp[cK]),(hws.below hb2).below hal,r7,?_,?_⟩
  ·exact(KN.trans (hb2.mono (by omega))).trans (hal.mono (by omega))
  ·rw[World.size_alloc];omega
 have Hst:=hid hst;have Hb7:=hid hb7;clear hb2 hal r7 hst hb7 r2 r5 r6 hws KN hW3 e2 e5 e6 es ado hB;go_wp2;rw[Hb7.out];generalize w2.alloc (.cells #[.int .i64 1,.int .i64 2,.int .i64 4] 154)=wA at *;clear Hb7;obtain⟨n,hn⟩:∃n,n=l.length:=⟨_,rfl⟩;have Hn:=hid hn;rw[←hn]at hl ⊢;clear hn;go_loopw [9,10,11,12,13,14,15,16,17,18,22] (fun _ _ _ _ _ _ _ _ _ _ i wr=>∃(k:Nat) (us:List Value),i=.int .i64 (k:Int)∧k≤n∧Hid (∀s∈l.take k,Ee s) ∧
  Hid (CoO w wr B b2 b5 b6 b7 us (fun j=>cK j (aP (1,2,4) (l.take k))) (aP (1,2,4) (l.take k)).flatten (AB (1,2,4) (l.take k)))) (fun _ _ _ _ _ _ _ _ _ _ i _=>n-(intOf i).toNat)
 case atStart=>exact⟨0,_,rfl,Nat.zero_le _,hid (by simp),Hst⟩
 case round=>
  obtain⟨k,us,rfl,hk,hall,hst⟩:=hrel;clear Hst;by_cases hkn:k<n
  ·have dk:decide ((k:Int)<(n:Int))=true:=decide_eq_true (by omega);have hkl:k<l.length:=by rw[←Hn.out];exact hkn
   obtain⟨g,off,rfl,hg,hc⟩:=(Hr.out.below hst.out.bel) (by omega);obtain⟨c0,c1,c2⟩:=hc k hkl;obtain⟨x,m,o,hs⟩:∃x m o,l[k]=(x,m,o):=⟨_,_,_,rfl⟩;have Hs:=hid hs;obtain⟨ox,om,oo⟩:=Hok.out l[k] (List.getElem_mem hkl);rw[hs]at c0 c1 c2 ox om oo;simp only at c0 c1 c2 ox om oo;have Htk:Hid (l.take (k+1)=l.take k++[(x,m,o)]):=hid (by rw[List.take_add_one,List.getElem?_eq_getElem hkl,hs];rfl);have YO:=hst.out.below ((Below.refl wr.heap.size wr).alloc (Nat.le_refl _) (.cells #[.int .i64 x,.int .i64 m,.int .i64 o] 118));obtain⟨y0,y1,y2⟩:=fQ YO.RG;have agX:=YZ (l.take k) (1,2,4) ⟨by decide,by decide,by decide⟩ hall.out;obtain⟨hra,hrb,hrc⟩:=Za agX;obtain⟨N,hN⟩:∃N,N=aP (1,2,4) (l.take k):=⟨_,rfl⟩;have HN:=hid hN;have HN2:Hid (aP (1,2,4) (l.take (k+1))=N++[kC (AB (1,2,4) (l.take k)) (x,m,o)]∧AB (1,2,4) (l.take (k+1))=nV (AB (1,2,4) (l.take k)).1 (AB (1,2,4) (l.take k)).2.1 (AB (1,2,4) (l.take k)).2.2 o):=hid (by rw[Htk.out,yS,Dv,hN];exact⟨rfl,rfl⟩);rw[←hN]at YO;generalize AB (1,2,4) (l.take k)=r at *;have Zz:=hid YO;clear hc hs hst YO hN;by_cases ho:1≤o∧o≤65533
   ·have bB:=hid (fun W=>Ru W r.1 r.2.1 r.2.2 (x,m,o) hra hrb hrc ho);dsimp only at bB;have hz2:=Aq r.1 r.2.1 r.2.2 o ho.1 ho.2;obtain⟨⟨ra,rb,rc⟩,aiz⟩:∃r',r'=nV r.1 r.2.1 r.2.2 o:=⟨_,rfl⟩;rw[←aiz]at bB HN2;have hth:kC r (x,m,o)=[x.toNat,(m-3).toNat,(nM r.1 r.2.1 r.2.2 o).toNat]:=rfl;rw[hth]at HN2;obtain⟨z2,ajK⟩:∃z2,z2=nM r.1 r.2.1 r.2.2 o:=⟨_,rfl⟩;rw[←ajK]at bB HN2 hz2;have hw3:=ahr m om;obtain⟨z1,ahe⟩:∃z1,z1=IntKind.i64.wrap (m-3):=⟨_,rfl⟩;rw[←ahe]at bB hw3;have Hw3:=hid hw3;have Hoz:Hid (lQ z1):=hid (by rw[ahe];exact Yb m om);dsimp only at bB;clear aiz hth ajK ahe hw3 hra hrb hrc agX;go_wp2_with fail
    refine(bB.out _).mono ?_;rintro e w3 ⟨rfl,hb3⟩;have TU:=Zz.out.below hb3;have aay:=TU.low;obtain⟨bn,hbn⟩:∃bn,w3.heap.size=bn:=⟨_,rfl⟩;have rt:=Row.new (w3.alloc (.cells #[.int .i64 x,.int .i64 z1,.int .i64 z2] 30)) 154 [.int .i64 ra,.int .i64 rb,.int .i64 rc];have rn:=(Row.new w3 30 [.int .i64 x,.int .i64 z1,.int .i64 z2]).alloc (.cells #[.int .i64 ra,.int .i64 rb,.int .i64 rc] 154);rw[World.size_alloc,hbn]at rt;rw[hbn]at rn;have kY:=(TU.below ((Below.refl w3.heap.size w3).alloc (Nat.le_refl _) (.cells #[.int .i64 x,.int .i64 z1,.int .i64 z2] 30))).below ((Below.refl _ (w3.alloc (.cells #[.int .i64 x,.int .i64 z1,.int .i64 z2] 30))).alloc (Nat.le_refl _) (.cells #[.int .i64 ra,.int .i64 rb,.int .i64 rc] 154));have uJ:=hid kY;have Hrt:=hid rt;have Hrn:=hid rn;have Hbn:=hid hbn;obtain⟨t0,t1,t2⟩:=fQ kY.RG;have f0:=kY.RG.free 0;have f1:=kY.RG.free 1;have f2:=kY.RG.free 2;obtain⟨q0,q1,q2⟩:=fQ rt;obtain⟨p0,p1,p2⟩:=fQ rn;have n1:bn+1≠b7:=by omega
    have n2:bn≠b7:=by omega
    rw[←hbn]at q0 q1 q2 p0 p1 p2 n1 n2;clear hb3 TU kY rt rn hbn aay bB Zz y0 y1 y2 c0 c1 c2;go_wp2;rw[Hbn.out];have PU:=uJ.out.turn ra rb rc;have aia:Hid (CoO w (((((w3.alloc (.cells #[.int .i64 x,.int .i64 z1,.int .i64 z2] 30)).alloc (.cells #[.int .i64 ra,.int .i64 rb,.int .i64 rc] 154)).setCell ⟨b7,0,none⟩ (.int .i64 ra)).setCell ⟨b7,1,none⟩ (.int .i64 rb)).setCell ⟨b7,2,none⟩ (.int .i64 rc)) B b2 b5 b6 b7 us (xk N []) (N.flatten++[]) (ra,rb,rc)):=hid (by
     rw[List.append_nil];exact PU.congr (fun s _=>Us N s))
    clear PU uJ Hrt Hrn Hbn t0 t1 t2 f0 f1 f2 q0 q1 q2 p0 p1 p2 n1 n2;generalize ((((w3.alloc (.cells #[.int .i64 x,.int .i64 z1,.int .i64 z2] 30)).alloc (.cells #[.int .i64 ra,.int .i64 rb,.int .i64 rc] 154)).setCell ⟨b7,0,none⟩ (.int .i64 ra)).setCell ⟨b7,1,none⟩ (.int .i64 rb)).setCell ⟨b7,2,none⟩ (.int .i64 rc)=wB at *;have HNf:Hid ((∀v∈N.flatten,v≤65535)∧N.flatten.length≤3*700∧N.length≤700):=hid (by
     rw[HN.out,iT,fG,List.length_take];exact⟨qY _ _ hall.out,by omega,by omega⟩)
    rename World=>wo
    go_loopw [13,14,15,16,17,18,38] (fun _ _ _ _ _ _ i wr=>∃(j:Nat) (vs:List Nat) (us:List Value),i=.int .i64 (j:Int)∧j≤3∧Hid (vs.length=j)∧Hid (∀v∈vs,v≤65535)∧Hid ([x,z1,z2].take j=vs.map fun v:Nat=>(v:Int)) ∧
     Hid (CoO w wr B b2 b5 b6 b7 us (xk N vs) (N.flatten++vs) (ra,rb,rc))) (fun _ _ _ _ _ _ i _=>3-(intOf i).toNat)
    case atStart=>exact⟨0,[],us,rfl,by omega,hid rfl,hid (by simp),hid rfl,aia⟩
    case round=>
     obtain⟨j,vs,us,rfl,hj,hvs,aeP,hzs,hst⟩:=hrel;clear aia;by_cases hj3:j<3
     ·have dj:(j:Int)<3:=by omega
      obtain⟨z,hz⟩:∃z,[x,z1,z2][j]?=some z:=⟨_,List.getElem?_eq_getElem (by simpa using hj3)⟩;have hidx:=PY x z1 z2 z j hz;have Hz:=hid hz;have ahf:lQ z:=by
       rcases(by omega:j=0∨j=1∨j=2)with rfl | rfl | rfl
       ·simp at hz;subst hz;exact ox
       ·simp at hz;subst hz;exact Hoz.out
       ·simp at hz;subst hz;unfold lQ;omega
      have hu:∃u,us[j]?=some u:=⟨_,List.getElem?_eq_getElem (by rw[hst.out.len];exact hj3)⟩;obtain⟨u,hu⟩:=hu;have Hu:=hid hu;clear hz hu;by_cases hz0:0≤z∧z≤65535
      ·obtain⟨v,rfl⟩:∃v:Nat,z=(v:Int):=⟨z.toNat,by omega⟩;have hv:v≤65535:=by omega
       have bB:=hid (fun W=>Hcy.out v hv W);have hm2:=(lX v hv).2.1;have hcu:IntKind.u32.wrap ((jV v:Nat):Int)=((jV v:Nat):Int):=by rw[IntKind.wrap_u32];omega
       have zF:=hid (fun W h=>uq b6 v (N.flatten++vs) W hv (fun q hq=>(List.mem_append.1 hq).elim (HNf.out.1 q) (aeP.out q)) (by rw[List.length_append,hvs.out];have:=HNf.out.2.1;omega) h);have kW:=hid hst.out;have hP:(xk N vs j).length≤701:=Nat.le_trans (Ur N vs j) (by have:=HNf.out.2.2;omega);clear hz0 hst ahf Hcy Hcn;go_wp2_with fail
       refine(bB.out _).mono ?_;rintro e w4 ⟨rfl,hb4⟩;have kY:=kW.out.below hb4;have c5:=(kY.all.cell j).trans Hu.out;have Bu:=hid (kY.fam.own j u Hu.out);have hs4:=kY.low;have uJ:=hid kY;clear hb4 kY kW bB;generalize hcd:kF v=cd at *;go_wp2_with (at_builtin;refine wpList_append_lies _ rfl _ _ 87 rfl B 5 i0 (.int .u8 0) 1 1 underlying87 hi hy0 hy1 hy2 rfl (by decide) _ _ _ rfl (Bu.out.alloc _) ⟨w4.heap.size,0,none⟩ 1 1 [.int .u8 (cd:Int)] rfl rfl ?d1 ?d2 (by decide) ?d3 ?d4 ?d5 _ rfl ?_)
       case d1=>
        intro j u hj;match j,hj with
        | 0,hj=>simp at hj;subst hj;simp[Addr.add]
       case d2=>intro u hu;simp at hu;subst hu;rfl
       case d3=>unfold maxLen;omega
       case d4=>omega
       case d5=>simp;omega
       intro g7 aip w7 bM gG afE aiW;have PU:=uJ.out.below ((Below.refl w4.heap.size w4).alloc (Nat.le_refl _) (.cells #[.int .u8 (cd:Int)] 5));have happ:=NJ N vs v;rw[hcd,hvs.out]at happ;have e7:u8s (xk N vs j)++[Value.int .u8 (cd:Int)]=u8s (xk N (vs++[v]) j):=by rw[happ];simp[u8s]
       rw[e7]at bM;have aeu:(xk N (vs++[v]) j).length=(xk N vs j).length+1:=by rw[happ];simp
       have acL:=PU.app (P':=xk N (vs++[v])) Hu.out gG (by rw[World.size_alloc];exact afE) bM aeu (fun t ht=>Kc N vs v t (by rw[hvs.out];exact ht));have akY:=PU.low;have aiZ:∀q,q<B→u.ownBlock≠some q:=fun q hq e=>by have:=(Bu.out.lt q e).1;omega
       have r5':=PU.all.keep (gG.block b5 (by omega) (fun e=>aiZ b5 (by omega) e.symm));have c7:=(r5'.cell j).trans Hu.out;have f7:=r5'.free j;have ZA:=hid acL;have Hp6:=hid (zF.out _ acL.wr);clear bM gG afE aiW PU happ e7 aeu acL akY aiZ r5' Bu uJ c5 zF;go_wp2_with fail
       refine Hp6.out.mono ?_;rintro e w8 ⟨rfl,ajI,hg8⟩;have acC:=hid (ZA.out.put hg8 ajI);clear ajI hg8 ZA Hp6 c7 f7;go_wp2;go_roundw
       case rel=>
        refine⟨j+1,vs++[v],_,by go_num,by omega,hid (by rw[List.length_append,hvs.out];rfl),hid (fun q hq=>?_),hid ?_,by rw[←List.append_assoc];exact acC⟩
        ·rcases List.mem_append.1 hq with hq | hq
         ·exact aeP.out q hq
         ·rw[List.mem_singleton.1 hq];exact hv
        ·rw[List.take_add_one,Hz.out,hzs.out,List.map_append];rfl
       case measure=>simp[intOf];omega
      ·have hzb:z<0∨65535<z:=by omega
       have bB:=hid (fun W=>Hcn.out z ahf hzb W);have JX:Hid (¬∀s∈l,Ee s):=hid (fun h=>by
        have hm:=h (x,m,o) (by rw[←Hs.out];exact List.getElem_mem hkl);obtain⟨m1,m2,m3,m4,m5,m6⟩:=hm;dsimp only at m1 m2 m3 m4 m5 m6;have hz:=Hz.out;have hw1:=Hw3.out.1 ⟨m3,m4⟩;rcases(by omega:j=0∨j=1∨j=2)with rfl | rfl | rfl
        ·simp at hz;omega
        ·simp at hz;omega
        ·simp at hz;omega)
       have kW:=hid hst.out;clear hz0 hst ahf Hcy Hcn hzb Hu;go_wp2_with fail
       refine(bB.out _).mono ?_;rintro e w4 ⟨rfl,hb4⟩;have kY:=kW.out.below hb4;obtain⟨d0,d1,d2⟩:=fQ kY.res;have f0:=kY.res.free 0;have f1:=kY.res.free 1;have f2:=kY.res.free 2;have aax:=kY.low;have r4:=((kY.res.aY 0 (.slice none 0 0)).aY 1 (.slice none 0 0)).aY 2 (.slice none 0 0);simp only[List.set_cons_zero,List.set_cons_succ]at r4;obtain⟨s0,s1,s2⟩:=fQ r4;have HS:=hid (⟨s0,s1,s2⟩:_∧_∧_);have HB4:=hid (((kY.bel.setCell (p:=⟨b2,0,none⟩) aax.1 (.slice none 0 0)).setCell (p:=⟨b2,1,none⟩) aax.1 (.slice none 0 0)).setCell (p:=⟨b2,2,none⟩) aax.1 (.slice none 0 0));clear hb4 kY r4 s0 s1 s2 bB kW;go_wp2;obtain⟨s0,s1,s2⟩:=HS.out;refine bodyPost_ret (v:=.tuple #[.agg #[.slice none 0 0,.slice none 0 0,.slice none 0 0],.slice none 0 0,.bool false]) (by simp[results,results61,go_sem,s0,s1,s2]) rfl ⟨?_,HB4.out⟩;rw[Yk.out];show lK _ _ l;unfold lK;rw[if_neg JX.out]
     ·have aav:j=3:=by omega
      subst aav;have ahg:=hzs.out;rw[show [x,z1,z2].take 3=[x,z1,z2]from rfl]at ahg;obtain⟨v0,v1,v2,hv3⟩:∃v0 v1 v2,vs=[v0,v1,v2]:=by
       match vs,hvs.out with
       | [a,b,c],_=>exact⟨a,b,c,rfl⟩
      subst hv3;simp only[List.map_cons,List.map_nil,List.cons.injEq,and_true]at ahg;obtain⟨ex,e1,e2⟩:=ahg;have b0:=aeP.out v0 (by simp);have b1:=aeP.out v1 (by simp);have hm3:=Hw3.out.2 (by omega);have hw1:=Hw3.out.1 hm3;have Pp:Hid (∀s∈l.take (k+1),Ee s):=hid (fun s hs=>by
       rw[Htk.out]at hs;rcases List.mem_append.1 hs with hs | hs
       ·exact hall.out s hs
       ·rw[List.mem_singleton.1 hs];unfold Ee;dsimp only;omega)
      have ajD:[x.toNat,(m-3).toNat,z2.toNat]=[v0,v1,v2]:=by
       rw[←hw1,ex,e1,e2];simp
      have afC:=HN2.out;rw[ajD]at afC;have akr:Hid (CoO w wr B b2 b5 b6 b7 us (fun j=>cK j (aP (1,2,4) (l.take (k+1)))) (aP (1,2,4) (l.take (k+1))).flatten (AB (1,2,4) (l.take (k+1)))):=hid (by
       rw[afC.1,afC.2,List.flatten_append,List.flatten_singleton];exact hst.out.congr (fun s hs=>(Uq N [v0,v1,v2] s (by simpa using hs)).symm))
      clear hst ajD afC hw1 hm3 b0 b1 ex e1 e2 hzs hvs aeP HN2 HNf Hw3 Hoz HN Htk;go_wp2;go_roundw
      case rel=>exact⟨k+1,us,by go_num,by omega,Pp,akr⟩
      case measure=>simp[intOf];omega
   ·have bB:=hid (fun W=>WK W r.1 r.2.1 r.2.2 (x,m,o) hra hrb hrc oo ho);dsimp only at bB;have JX:Hid (¬∀s∈l,Ee s):=hid (fun h=>by
     have hm:=h (x,m,o) (by rw[←Hs.out];exact List.getElem_mem hkl);exact ho ⟨hm.2.2.2.2.1,hm.2.2.2.2.2⟩)
    have kW:=Zz;clear Zz hra hrb hrc agX ho HN2 HN Htk Hcy Hcn;generalize IntKind.i64.wrap (m-3)=z1 at *;go_wp2_with fail
    refine(bB.out _).mono ?_;rintro e w4 ⟨rfl,hb4⟩;have kY:=kW.out.below hb4;have kY:=(kY.below ((Below.refl w4.heap.size w4).alloc (Nat.le_refl _) (.cells #[.int .i64 x,.int .i64 z1,.int .i64 0] 30))).below ((Below.refl _ (w4.alloc (.cells #[.int .i64 x,.int .i64 z1,.int .i64 0] 30))).alloc (Nat.le_refl _) (.cells #[.int .i64 r.1,.int .i64 r.2.1,.int .i64 r.2.2] 154));obtain⟨d0,d1,d2⟩:=fQ kY.res;have f0:=kY.res.free 0;have f1:=kY.res.free 1;have f2:=kY.res.free 2;have aax:=kY.low;have r4:=((kY.res.aY 0 (.slice none 0 0)).aY 1 (.slice none 0 0)).aY 2 (.slice none 0 0);simp only[List.set_cons_zero,List.set_cons_succ]at r4;obtain⟨s0,s1,s2⟩:=fQ r4;have HS:=hid (⟨s0,s1,s2⟩:_∧_∧_);have HB4:=hid (((kY.bel.setCell (p:=⟨b2,0,none⟩) aax.1 (.slice none 0 0)).setCell (p:=⟨b2,1,none⟩) aax.1 (.slice none 0 0)).setCell (p:=⟨b2,2,none⟩) aax.1 (.slice none 0 0));clear hb4 kY r4 s0 s1 s2 bB kW;go_wp2_with fail
    generalize (w4.alloc (.cells #[.int .i64 x,.int .i64 z1,.int .i64 0] 30)).alloc (.cells #[.int .i64 r.1,.int .i64 r.2.1,.int .i64 r.2.2] 154)=wC at *;go_wp2;obtain⟨s0,s1,s2⟩:=HS.out;refine bodyPost_ret (v:=.tuple #[.agg #[.slice none 0 0,.slice none 0 0,.slice none 0 0],.slice none 0 0,.bool false]) (by simp[results,results61,go_sem,s0,s1,s2]) rfl ⟨?_,HB4.out⟩;rw[Yk.out];show lK _ _ l;unfold lK;rw[if_neg JX.out]
  ·have hkn':k=n:=by omega
   subst hkn';have dk:decide ((k:Int)<(k:Int))=false:=decide_eq_false (by omega);have htl:l.take k=l:=by rw[Hn.out,List.take_length]
   have Pp:=hall.out;rw[htl]at Pp;have xA:=hst.out;rw[htl]at xA;have Ua:=hid Pp;have Hst:=hid xA;clear hall hst Pp xA htl Hcy Hcn;obtain⟨u0,u1,u2,hus⟩:∃u0 u1 u2,us=[u0,u1,u2]:=by
    match us,Hst.out.len with
    | [a,b,c],_=>exact⟨a,b,c,rfl⟩
   subst hus;have hlo:=Hst.out.low;have o0:=Hst.out.fam.own 0 u0 rfl;have o1:=Hst.out.fam.own 1 u1 rfl;have o2:=Hst.out.fam.own 2 u2 rfl;have hpl:∀j,(cK j (aP (1,2,4) l)).length=k:=fun j=>by rw[cK,List.length_map,fG,Hn.out]
   rw[hpl]at o0 o1 o2;obtain⟨A0,k0,rfl,hr0,hA0⟩:=dL o0;obtain⟨A1,k1,rfl,hr1,hA1⟩:=dL o1;obtain⟨A2,k2,rfl,hr2,hA2⟩:=dL o2;have hk0:=(Av o0).1;have hk1:=(Av o1).1;have hk2:=(Av o2).1;have hnl:(bG (aP (1,2,4) l).flatten).2≤100000:=by
    have h1:=tN _ (qY l (1,2,4) Ua.out);rw[iT]at h1;have:=Hn.out;omega
   have Hby:=hid (jO b6 0 _ _ wr.drew (by omega) Hst.out.wr.drew);have HR:=hid (⟨hr0,hr1,hr2⟩:_∧_∧_);have HA:=hid (⟨fun a e=>(hA0 a e).1,fun a e=>(hA1 a e).1,fun a e=>(hA2 a e).1⟩:(∀a,A0=some a→B≤a.block)∧(∀a,A1=some a→B≤a.block)∧(∀a,A2=some a→B≤a.block));have HK:=hid (⟨hk0,hk1,hk2⟩:k≤k0∧k≤k1∧k≤k2);obtain⟨a0,a1,a2⟩:=fQ Hst.out.all;have hbl:(dJ (aP (1,2,4) l)).length=((bG (aP (1,2,4) l).flatten).2+7)/8:=by rw[dJ,Bm.bytesOf_length]
   have hbe:Bm.bytesOf (bG (aP (1,2,4) l).flatten).1 (((bG (aP (1,2,4) l).flatten).2+7)/8)=dJ (aP (1,2,4) l):=rfl;rw[hbe,←hbl]at Hby;clear o0 o1 o2 hpl hr0 hr1 hr2 hA0 hA1 hA2 hk0 hk1 hk2 hnl hbl hbe;generalize hbE:dJ (aP (1,2,4) l)=bE at *;have HbE:=hid hbE;clear hbE;go_upto_region 21 with fail
   refine wp_region_held_drew (S:=(fun W:World=>W.cell? ⟨b5,0,none⟩=some (.slice A0 k k0)∧W.cell? ⟨b5,1,none⟩=some (.slice A1 k k1)∧W.cell? ⟨b5,2,none⟩=some (.slice A2 k k2))) (by kernel_rfl) (by exact⟨a0,a1,a2⟩) (fun hHeld=>?_);refine wpAnyH_take (i:=0) (oi:={dst:=some 66,op:=.load 108 (.tmp 5),type:=108,pos:= "seqs.go:80",after:=#[],guard:=none}) (v:=?_) rfl (by kernel_rfl) (by kernel_rfl) (by kernel_rfl) (fun _ _ _ h=>h) (Or.inl ⟨by rfl,?_⟩) (by assumption) ?_;rotate_left
   ·(intro w hSw;(try dsimp only at hSw);go_simp;(try with_reducible rfl))
   try simp only[Act.put,List.setIfInBounds_toArray,List.set_cons_zero,List.set_cons_succ]
   refine wpAnyH_ready (rs:=[1]) (by kernel_rfl) (by simp) ?_;refine AllReadyH.cons (o:={dst:=some 67,op:=.call {callee:=.value (.func 100),args:=#[.tmp 6],argTypes:=#[153]},type:=87,pos:= "seqs.go:80",after:=#[],guard:=none}) rfl (fun K hK=>?_) AllReadyH.nil;go_simp
   (go_at_call 100;refine Hby.out.mono ?_;rintro e w8 ⟨g,rfl,hge,aeL,hb8⟩;have HX:=hid ((Below.refl wr.heap.size wr).drew.trans (hb8.mono (Nat.le_refl _)));have HR8:=hid aeL;have HG:=hid hge;clear hge aeL hb8)
   go_simp;refine hK.out _ _ (by exact fQ (Hst.out.below HX.out).all) (fun hHeld=>?_);clear hK K
   try simp only[Act.put,List.setIfInBounds_toArray,List.set_cons_zero,List.set_cons_succ]
   have acM:=Hst.out.below HX.out;obtain⟨d0,d1,d2⟩:=fQ acM.res;have f0:=acM.res.free 0;have f1:=acM.res.free 1;have f2:=acM.res.free 2;have acC:=hid acM;clear acM;refine wpAnyH_ready (rs:=[2]) (by kernel_rfl) (by simp) ?_;refine AllReadyH.cons (o:={dst:=none,op:=.store 108 (.tmp 2) (.tmp 66),type:=0,pos:= "seqs.go:80",after:=#[{on:=0,ground:=.data},{on:=1,ground:=.chain},{on:=0,ground:=.phase},{on:=1,ground:=.textOnly Go.Departure.lateStoresUnsure}],guard:=none}) rfl (fun K hK=>?_) AllReadyH.nil;go_simp;refine hK.out _ _ (by exact fQ (((acC.out.all.far (p:=⟨b2,0,none⟩) (by show b5≠b2;omega) (.slice A0 k k0)).far (p:=⟨b2,1,none⟩) (by show b5≠b2;omega) (.slice A1 k k1)).far (p:=⟨b2,2,none⟩) (by show b5≠b2;omega) (.slice A2 k k2))) (fun hHeld=>?_);clear hK K
   try simp only[Act.put,List.setIfInBounds_toArray,List.set_cons_zero,List.set_cons_succ]
   refine wpAnyH_take (i:=3) (oi:={dst:=some 3,op:=.assign (.tmp 67),type:=87,pos:= "seqs.go:80",after:=#[{on:=1,ground:=.data},{on:=2,ground:=.chain},{on:=0,ground:=.phase},{on:=1,ground:=.phase},{on:=2,ground:=.phase}],guard:=none}) (v:=?_) rfl (by kernel_rfl) (by kernel_rfl) (by kernel_rfl) (fun _ _ _ h=>h) (Or.inl ⟨by rfl,?_⟩) (by assumption) ?_;rotate_left
   ·(intro w hSw;(try dsimp only at hSw);go_simp;(try with_reducible rfl))
   try simp only[Act.put,List.setIfInBounds_toArray,List.set_cons_zero,List.set_cons_succ]
   refine wpAnyH_take (i:=4) (oi:={dst:=some 4,op:=.assign (.const (.bool true)),type:=4,pos:= "seqs.go:80",after:=#[{on:=3,ground:=.chain},{on:=0,ground:=.phase},{on:=1,ground:=.phase},{on:=2,ground:=.phase},{on:=3,ground:=.phase}],guard:=none}) (v:=?_) rfl (by kernel_rfl) (by kernel_rfl) (by kernel_rfl) (fun _ _ _ h=>h) (Or.inl ⟨by rfl,?_⟩) (by assumption) ?_;rotate_left
   ·(intro w hSw;(try dsimp only at hSw);go_simp;(try with_reducible rfl))
   try simp only[Act.put,List.setIfInBounds_toArray,List.set_cons_zero,List.set_cons_succ]
   refine wpAnyH_done (by kernel_rfl) ?_ _;have rb2:=((acC.out.res.aY 0 (.slice A0 k k0)).aY 1 (.slice A1 k k1)).aY 2 (.slice A2 k k2);simp only[List.set_cons_zero,List.set_cons_succ]at rb2;have HB9:=hid (((acC.out.bel.setCell (p:=⟨b2,0,none⟩) hlo.1 (.slice A0 k k0)).setCell (p:=⟨b2,1,none⟩) hlo.1 (.slice A1 k k1)).setCell (p:=⟨b2,2,none⟩) hlo.1 (.slice A2 k k2));have rg:Row (((w8.setCell ⟨b2,0,none⟩ (.slice A0 k k0)).setCell ⟨b2,1,none⟩ (.slice A1 k k1)).setCell ⟨b2,2,none⟩ (.slice A2 k k2)) g 5 (u8s bE):=by
    have hgb:g≠b2:=by have:=HG.out;simp at this;omega
    exact((HR8.out.far (p:=⟨b2,0,none⟩) hgb (.slice A0 k k0)).far (p:=⟨b2,1,none⟩) hgb (.slice A1 k k1)).far (p:=⟨b2,2,none⟩) hgb (.slice A2 k k2)
   have rd:∀(A:Option Addr) (cs:List Nat),(∀a,A=some a→B≤a.block)→Reads wr A (u8s cs)→Reads (((w8.setCell ⟨b2,0,none⟩ (.slice A0 k k0)).setCell ⟨b2,1,none⟩ (.slice A1 k k1)).setCell ⟨b2,2,none⟩ (.slice A2 k k2)) A (u8s cs):=fun A cs hA h=>by
    have hne:∀a,A=some a→a.block≠b2:=fun a e=>by have:=hA a e;omega
    exact jY (jY (jY (aC h HX.out) hne (dV _ ⟨b2,0,none⟩ _)) hne (dV _ ⟨b2,1,none⟩ _)) hne (dV _ ⟨b2,2,none⟩ _)
   have HRD:=hid (⟨rd A0 _ HA.out.1 HR.out.1,rd A1 _ HA.out.2.1 HR.out.2.1,rd A2 _ HA.out.2.2 HR.out.2.2,bP rg⟩:_∧_∧_∧_);obtain⟨s0,s1,s2⟩:=fQ rb2;have HS:=hid (⟨s0,s1,s2⟩:_∧_∧_);clear rb2 rg rd s0 s1 s2 acC Hst HX HR8 HG HR HA a0 a1 a2 d0 d1 d2 f0 f1 f2 hHeld Hby;generalize ((w8.setCell ⟨b2,0,none⟩ (.slice A0 k k0)).setCell ⟨b2,1,none⟩ (.slice A1 k k1)).setCell ⟨b2,2,none⟩ (.slice A2 k k2)=w9 at *;go_wp2;obtain⟨s0,s1,s2⟩:=HS.out;refine bodyPost_ret (v:=.tuple #[.agg #[.slice A0 k k0,.slice A1 k k1,.slice A2 k k2],.slice (some ⟨g,0,none⟩) bE.length bE.length,.bool true]) (by simp[results,results61,go_sem,s0,s1,s2]) rfl ⟨?_,HB9.out⟩;rw[Yk.out];show lK _ _ l;unfold lK;rw[if_pos Ua.out,←Hn.out,HbE.out];exact⟨A0,k0,A1,k1,A2,k2,some ⟨g,0,none⟩,bE.length,rfl,HK.out.1,HK.out.2.1,HK.out.2.2,HRD.out.1,HRD.out.2.1,HRD.out.2.2.1,HRD.out.2.2.2⟩
end Go.Proofs.YtgiicohbigiapaaGreat
