/- Contracts, and what they rest on. Conditions: the theorems' premises. -/
import Derived.Test.YtgiicohbigiapaaGreatRap
import Derived.Deep.DeepCutAuto
import Derived.Deep.RegionHeld3
import Derived.Deep.DrawnRows
import Derived.Shelf.RegionOpenPlain
set_option maxHeartbeats 4000000
set_option maxRecDepth 100000
open Go.Lib(hid)
open Go.Proofs.Tryz Go.Proofs.YtgiicohbigiapaaGreat.Bm
namespace Go.Proofs.YtgiicohbigiapaaGreat
open Go.RowKit
def cc2{α:Type}(f h:α→Value):List α→List Value
 | []=>[]
 | x :: l=>f x :: h x :: cc2 f h l
section
variable {α:Type} {f h:α→Value}
theorem fG(l:List α):(cc2 f h l).length=l.length*2:=by
 induction l with
 | nil=>rfl
 | cons x l ih=>rw[cc2,List.length_cons,List.length_cons,ih,List.length_cons];omega
theorem qV(l m:List α):cc2 f h (l++m)=cc2 f h l++cc2 f h m:=by
 induction l with
 | nil=>rfl
 | cons x l ih=>rw[List.cons_append,cc2,ih,cc2];rfl
theorem Pb(l:List α)(i:Nat)(hi:i<l.length):(cc2 f h l)[i*2]?=some (f l[i])∧(cc2 f h l)[i*2+1]?=some (h l[i]):=by
 induction l generalizing i with
 | nil=>simp at hi
 | cons x l ih=>
  cases i with
  | zero=>exact⟨rfl,rfl⟩
  | succ i=>
   have h1:=ih i (by simpa using hi);rw[cc2,show(i+1)*2=i*2+1+1 by omega];exact h1
theorem Pg(l:List α)(i:Nat)(x:α)(hi:i<l.length):((cc2 f h l).set (i*2) (f x)).set (i*2+1) (h x)=cc2 f h (l.set i x):=by
 induction l generalizing i with
 | nil=>simp at hi
 | cons y l ih=>
  cases i with
  | zero=>rfl
  | succ i=>
   have h1:=ih i (by simpa using hi);rw[cc2,show(i+1)*2=i*2+1+1 by omega,List.set_cons_succ,List.set_cons_succ,List.set_cons_succ,List.set_cons_succ,h1];rfl
theorem Vm(l:List α)(k:Nat):cc2 f h (l.take k)=(cc2 f h l).take (k*2):=by
 induction l generalizing k with
 | nil=>simp[cc2]
 | cons x l ih=>
  cases k with
  | zero=>simp[cc2]
  | succ k=>
   rw[List.take_succ_cons,cc2,ih,cc2,show(k+1)*2=k*2+1+1 by omega,List.take_succ_cons,List.take_succ_cons]
end
def swp{α:Type}(d:α)(l:List α)(i j:Nat):List α:=(l.set i (l[j]?.getD d)).set j (l[i]?.getD d)
theorem nK{α:Type}(d:α)(l:List α)(i j:Nat):(swp d l i j).length=l.length:=by simp[swp]
section
variable {α:Type} {f h:α→Value} {w w':World} {g:Nat} {t:TypeId} {post:List Value}
theorem fU{l:List α}(hr:Row w g t (cc2 f h l++post))(i:Nat)(hi:i<l.length):w.cell? ⟨g,i*2,none⟩=some (f l[i])∧w.cell? ⟨g,i*2+1,none⟩=some (h l[i]):=by
 obtain⟨h1,h2⟩:=Pb (f:=f) (h:=h) l i hi;have hl:=fG (f:=f) (h:=h) l;rw[hr.cell,hr.cell,List.getElem?_append_left (by omega),List.getElem?_append_left (by omega)];exact⟨h1,h2⟩
theorem JQ{l:List α}(hr:Row w g t (cc2 f h l++post))(i:Nat)(hi:i<l.length)(x:α):Row ((w.setCell ⟨g,i*2,none⟩ (f x)).setCell ⟨g,i*2+1,none⟩ (h x)) g t (cc2 f h (l.set i x)++post):=by
 have hl:=fG (f:=f) (h:=h) l;have h1:=(hr.aW (i*2) (f x)).aW (i*2+1) (h x);rw[List.set_append_left _ _ (by omega),List.set_append_left _ _ (by rw[List.length_set];omega),Pg l i x hi]at h1;exact h1
theorem JR{l:List α}{d:α}(hr:Row w g t (cc2 f h l++post))(i j:Nat)(hi:i<l.length)(hj:j<l.length) :
  Row ((((w.setCell ⟨g,i*2,none⟩ (f l[j])).setCell ⟨g,i*2+1,none⟩ (h l[j])).setCell ⟨g,j*2,none⟩ (f l[i])).setCell ⟨g,j*2+1,none⟩ (h l[i])) g t (cc2 f h (swp d l i j)++post):=by
 have h1:=JQ (JQ hr i hi l[j]) j (by simpa using hj) l[i];unfold swp;rw[List.getElem?_eq_getElem hi,List.getElem?_eq_getElem hj];exact h1
theorem jW(w:World)(g a b c d:Nat)(u v x y:Value):w.grownBy ((((w.setCell ⟨g,a,none⟩ u).setCell ⟨g,b,none⟩ v).setCell ⟨g,c,none⟩ x).setCell ⟨g,d,none⟩ y) (some g):=
 aH (aH (aH (aH (au w (some g)) _ _) _ _) _ _) _ _
end
abbrev Nod:=Nat×Nat
def Dv(t:Nod):Value:=.int .i64 (t.1:Int)
def Du(t:Nod):Value:=.int .i64 (t.2:Int)
def n2(l:List Nod):List Value:=cc2 Dv Du l
namespace Bm
def lt2(a b:Nat×Nat):Prop:=a.1<b.1∨(a.1=b.1∧a.2<b.2)
instance (a b:Nat×Nat):Decidable (lt2 a b):=by unfold lt2;exact inferInstance
end Bm
theorem qI(A:Option Addr)(n c:Nat)(w:World):Calls prog 168 #[.slice A n c] w fun e w'=>e=.returned (.int .i64 (n:Int))∧w=w':=by
 go_enter func168,ntmps168
 go_wp2;go_ret;exact⟨rfl,rfl⟩
theorem Nk(g n c i j:Nat)(x y:Nod)(w:World)(hi:i<n)(hj:j<n)(h0:w.cell? ⟨g,i*2,none⟩=some (Dv x)∧w.cell? ⟨g,i*2+1,none⟩=some (Du x))(h1:w.cell? ⟨g,j*2,none⟩=some (Dv y)∧w.cell? ⟨g,j*2+1,none⟩=some (Du y)) :
  Calls prog 255 #[.slice (some ⟨g,0,none⟩) n c,.int .i64 (i:Int),.int .i64 (j:Int)] w fun e w'=>e=.returned (.bool (decide (lt2 x y)))∧Below w.heap.size w w':=by
 obtain⟨a,p⟩:=x;obtain⟨b,q⟩:=y;obtain⟨c0,c1⟩:=h0;obtain⟨k0,k1⟩:=h1;simp only[Dv,Du]at c0 c1 k0 k1;obtain⟨r,hr⟩:∃r,r=decide (lt2 (a,p) (b,q)):=⟨_,rfl⟩;rw[←hr];have Hr:=hid hr;clear hr;by_cases hab:a=b
 ·subst hab;have hd0:((a:Int) == (a:Int))=true:=by simp
  have Hf:Hid (decide (p<q)=r):=hid (by rw[Hr.out,decide_eq_decide];unfold lt2;simp);go_enter func255,ntmps255
  go_wp2_with fail
  go_quiet (fail)
  go_wp2_with fail
  go_quiet (fail)
  go_wp2;go_ret;exact⟨congrArg (fun x=>Ending.returned (Value.bool x)) Hf.out,below_drewN (below_drewN (Below.refl _ _) _) _⟩
 ·have hd0:((a:Int) == (b:Int))=false:=by simp;omega
  have Hf:Hid (decide (a<b)=r):=hid (by rw[Hr.out,decide_eq_decide];unfold lt2;simp;omega);go_enter func255,ntmps255
  go_wp2_with fail
  go_quiet (fail)
  go_wp2_with fail
  go_quiet (fail)
  go_wp2;go_ret;exact⟨congrArg (fun x=>Ending.returned (Value.bool x)) Hf.out,below_drewN (below_drewN (Below.refl _ _) _) _⟩
theorem Nn(g c i j:Nat)(L:List Nod)(post:List Value)(w:World)(hi:i<L.length)(hj:j<L.length)(hr:Row w g 223 (n2 L++post)) :
  Calls prog 258 #[.slice (some ⟨g,0,none⟩) L.length c,.int .i64 (i:Int),.int .i64 (j:Int)] w fun e w'=>e=.returned (.tuple #[])∧Row w' g 223 (n2 (swp (0,0) L i j)++post)∧w.grownBy w' (some g):=by
 obtain⟨c0,c1⟩:=fU (f:=Dv) (h:=Du) hr i hi;obtain⟨k0,k1⟩:=fU (f:=Dv) (h:=Du) hr j hj;have f0:=hr.free (i*2);have f1:=hr.free (i*2+1);have f2:=hr.free (j*2);have f3:=hr.free (j*2+1);have hs:=JR (f:=Dv) (h:=Du) (d:=(0,0)) hr i j hi hj;have Hs:=hid hs;clear hs hr;generalize swp (0,0) L i j=L2 at *;simp only[Dv,Du]at c0 c1 k0 k1 Hs;generalize L[i].1=a at *;generalize L[i].2=p at *;generalize L[j].1=b at *;generalize L[j].2=q at *;obtain⟨v1,hy1⟩:=cell?_setCell_some (w:=w) (p:=⟨g,i*2,none⟩) (x:=.int .i64 (b:Int)) (q:=⟨g,j*2,none⟩) k0;obtain⟨v2,hy2⟩:=cell?_setCell_some (w:=w) (p:=⟨g,i*2,none⟩) (x:=.int .i64 (b:Int)) (q:=⟨g,j*2+1,none⟩) k1;obtain⟨v3,hy3⟩:=cell?_setCell_some (w:=w.setCell ⟨g,i*2,none⟩ (.int .i64 (b:Int))) (p:=⟨g,i*2+1,none⟩) (x:=.int .i64 (q:Int)) (q:=⟨g,j*2+1,none⟩) hy2;clear hy2;go_enter func258,ntmps258
 go_wp2_with fail
 go_region
 all_goals (try go_wp2)
 all_goals go_end0
 all_goals exact⟨rfl,Hs.out,bA (jW _ _ _ _ _ _ _ _ _ _)⟩
theorem Gh(name:String)(i f:Nat)(p n c:Nat)(A:Option Addr)(w:World)(h:w.cell? ⟨p,0,none⟩=some (.slice A n c))
  (h1:∀w,(typeInfo 220).run prog w=.ok prog.types[220]! w)
  (h2:(prog.types[220]!).methods.find? (fun m=>m.name == name)=some ((prog.types[220]!).methods[i]!))
  (hp:((prog.types[220]!).methods[i]!).path=#[]) (hf:((prog.types[220]!).methods[i]!).func=some (f,false))
  (hs:∀s w,(Builtin.ssaWrapNilChk_ #[220] 220 #[.pointer (some ⟨p,0,none⟩),strVal "",strVal s]).run prog w=.ok (.pointer (some ⟨p,0,none⟩)) w) :
  (method 418 220 (.pointer (some ⟨p,0,none⟩)) name).run prog w=.ok (f,.slice A n c) w:=by
 rw[method];simp only[Sem.run_bind,h1,Result.andThen_ok,h2,hp,hf,follow,receiverAt,underlying,Sem.run_pure,Place.get];simp[loadVar,isAgg,underlying,underlying258,underlying220,h,Result.andThen,hs,asAddr]
theorem Gi:∀w,(typeInfo 220).run prog w=.ok prog.types[220]! w:=fun _=>by kernel_rfl
theorem ZB(p n c:Nat)(A:Option Addr)(w:World)(h:w.cell? ⟨p,0,none⟩=some (.slice A n c)):(method 418 220 (.pointer (some ⟨p,0,none⟩)) "Len").run prog w=.ok (168,.slice A n c) w:=
 Gh "Len" 0 168 p n c A w h Gi (by kernel_rfl) (by kernel_rfl) (by kernel_rfl) (fun _ _=>by kernel_rfl)
theorem wL(p n c:Nat)(A:Option Addr)(w:World)(h:w.cell? ⟨p,0,none⟩=some (.slice A n c)):(method 418 220 (.pointer (some ⟨p,0,none⟩)) "Less").run prog w=.ok (255,.slice A n c) w:=
 Gh "Less" 1 255 p n c A w h Gi (by kernel_rfl) (by kernel_rfl) (by kernel_rfl) (fun _ _=>by kernel_rfl)
theorem wM(p n c:Nat)(A:Option Addr)(w:World)(h:w.cell? ⟨p,0,none⟩=some (.slice A n c)):(method 418 220 (.pointer (some ⟨p,0,none⟩)) "Swap").run prog w=.ok (258,.slice A n c) w:=
 Gh "Swap" 4 258 p n c A w h Gi (by kernel_rfl) (by kernel_rfl) (by kernel_rfl) (fun _ _=>by kernel_rfl)
theorem aci(p:Nat)(w:World):(method 418 220 (.pointer (some ⟨p,0,none⟩)) "Push").run prog w=.ok (257,.pointer (some ⟨p,0,none⟩)) w:=by kernel_rfl
theorem afE(p:Nat)(w:World):(method 418 220 (.pointer (some ⟨p,0,none⟩)) "Pop").run prog w=.ok (256,.pointer (some ⟨p,0,none⟩)) w:=by kernel_rfl
structure jq(w:World)(base p g cap:Nat)(L:List Nod):Prop where
 abD:base≤p
 abC:base≤g
 fits:L.length≤cap
 most:cap≤maxLen
 var:Row w p 258 [.slice (some ⟨g,0,none⟩) L.length cap]
 row:∃post,post.length+L.length*2=cap*2∧Row w g 223 (n2 L++post)
structure gY(base:Nat)(w w':World):Prop where
 bel:Below base w w'
 rows:∀(b:Nat) (t:TypeId) (cs:List Value),t≠258→t≠223→Row w b t cs→Row w' b t cs
section
variable {w w' w'':World} {base p g cap:Nat} {L:List Nod}
theorem gY.refl(base:Nat)(w:World):gY base w w:=⟨Below.refl _ _,fun _ _ _ _ _ h=>h⟩
theorem gY.trans(h:gY base w w')(h':gY base w' w''):gY base w w'':=⟨h.bel.trans h'.bel,fun b t cs h1 h2 h3=>h'.rows b t cs h1 h2 (h.rows b t cs h1 h2 h3)⟩
theorem gY.below(h:Below w.heap.size w w')(hb:base≤w.heap.size):gY base w w':=⟨h.mono hb,fun _ _ _ _ _ hr=>aN hr h⟩
theorem gY.grown{t:TypeId}{cs:List Value}{b:Nat}(h:w.grownBy w' (some b))(hr:Row w b t cs)(ht:t=258∨t=223)(hb:base≤b):gY base w w':=
 ⟨below_grown h hb (Nat.le_trans hb (Nat.le_of_lt hr.lt)),fun b' t' cs' h1 h2 hr'=>hr'.keep (h.block b' hr'.lt (fun e=>by
  injection e with e
  subst e;unfold Row at hr hr';rw[hr]at hr';injection hr' with hr'
  injection hr' with _ e
  rcases ht with rfl | rfl
  ·exact h1 e.symm
  ·exact h2 e.symm))⟩
structure cO(base p g:Nat)(w w':World):Prop where
 bel:Below base w w'
 blk:∀b,b<w.heap.size→b≠p→b≠g→w'.heap[b]?=w.heap[b]?
theorem cO.refl(base p g:Nat)(w:World):cO base p g w w:=⟨Below.refl _ _,fun _ _ _ _=>rfl⟩
theorem cO.trans(h:cO base p g w w')(h':cO base p g w' w''):cO base p g w w'':=
 ⟨h.bel.trans h'.bel,fun b h1 h2 h3=>(h'.blk b (Nat.lt_of_lt_of_le h1 h.bel.size) h2 h3).trans (h.blk b h1 h2 h3)⟩
theorem cO.below(h:Below w.heap.size w w')(hb:base≤w.heap.size):cO base p g w w':=⟨h.mono hb,fun b hb _ _=>h.block b hb⟩
theorem cO.grown{b:Nat}(h:w.grownBy w' (some b))(hlt:b<w.heap.size)(ht:b=p∨b=g)(hb:base≤b):cO base p g w w':=
 ⟨below_grown h hb (Nat.le_trans hb (Nat.le_of_lt hlt)),fun b' h1 h2 h3=>h.block b' h1 (fun e=>by
  injection e with e
  rcases ht with h | h
  ·exact h2 (e.trans h)
  ·exact h3 (e.trans h))⟩
theorem cO.kept(h:cO base p g w w')(hp:jq w base p g cap L):gY base w w':=by
 refine⟨h.bel,fun b t cs h1 h2 hr=>hr.keep (h.blk b hr.lt ?_ ?_)⟩
 ·rintro rfl;have hv:=hp.var;unfold Row at hv hr;rw[hr]at hv;injection hv with hv
  injection hv with _ e
  exact h1 e
 ·rintro rfl;obtain⟨_,_,hv⟩:=hp.row;unfold Row at hv hr;rw[hr]at hv;injection hv with hv
  injection hv with _ e
  exact h2 e
theorem jq.ne(h:jq w base p g cap L):p≠g:=by
 obtain⟨post,_,hr⟩:=h.row;rintro rfl;have hv:=h.var;unfold Row at hr hv;rw[hr]at hv;injection hv with hv
 injection hv with _ e
 exact absurd e (by decide)
theorem jq.below(h:jq w base p g cap L)(hb:Below w.heap.size w w'):jq w' base p g cap L:=by
 obtain⟨post,h1,hr⟩:=h.row;exact⟨h.abD,h.abC,h.fits,h.most,aN h.var hb,post,h1,aN hr hb⟩
theorem jq.same{L':List Nod}(h:jq w base p g cap L)(hl:L'.length=L.length)(hg:w.grownBy w' (some g)){post:List Value}(hp:post.length+L.length*2=cap*2)(hr:Row w' g 223 (n2 L'++post)):jq w' base p g cap L':=
 ⟨h.abD,h.abC,by rw[hl];exact h.fits,h.most,by rw[hl];exact h.var.keep (hg.block p h.var.lt (fun e=>by injection e with e;exact h.ne e)),post,by rw[hl];exact hp,hr⟩
theorem jq.cell(h:jq w base p g cap L):w.cell? ⟨p,0,none⟩=some (.slice (some ⟨g,0,none⟩) L.length cap):=h.var.cell 0
theorem jq.own(h:jq w base p g cap L):w.ownsRow base 223 2 (.slice (some ⟨g,0,none⟩) L.length cap) L.length (n2 L):=by
 obtain⟨post,h1,hr⟩:=h.row;have hl:=fG (f:=Dv) (h:=Du) L;refine⟨hl,.inr ⟨g,cap,(n2 L++post).toArray,rfl,h.abC,hr,h.fits,h.most,?_,?_⟩⟩
 ·rw[List.size_toArray,List.length_append];unfold n2;omega
 ·rw[List.toList_toArray,List.take_left' (by exact hl)]
theorem Gg(hp:Row w p 258 [.slice (some ⟨g,0,none⟩) L.length cap])(hb:base≤p)(h:w.ownsRow base 223 2 (.slice (some ⟨g,0,none⟩) L.length cap) L.length (n2 L)):jq w base p g cap L:=by
 have hl:=fG (f:=Dv) (h:=Du) L;rcases h.2 with⟨h1,_⟩ | ⟨g',cap',cur,e,hb2,hg,hnc,hcm,hcs,ht⟩
 ·cases h1
 ·injection e with e1 _ e3
  injection e1 with e1
  injection e1 with e1
  subst e1 e3;refine⟨hb,hb2,hnc,hcm,hp,cur.toList.drop (L.length*2),?_,?_⟩
  ·have hcl:cur.toList.length=cur.size:=Array.length_toList;rw[List.length_drop];omega
  ·unfold Row;rw[←ht,List.take_append_drop,Array.toArray_toList];exact hg
end
def fk0(t:Int×Int):Value:=.int .i64 t.1
def fk1(t:Int×Int):Value:=.int .i64 t.2
def fkc(F:List (Int×Int)):List Value:=cc2 fk0 fk1 F
structure FT(w:World)(base g cap:Nat)(F:List (Int×Int)):Prop where
 low:base≤g
 fits:F.length≤cap
 most:cap≤maxLen
 row:∃post,post.length+F.length*2=cap*2∧Row w g 271 (fkc F++post)
theorem ru(F:List (Int×Int)):(fkc F).length=F.length*2:=fG F
section
variable {w w':World} {base g cap:Nat} {F:List (Int×Int)}
theorem FT.lt(h:FT w base g cap F):g<w.heap.size:=by
 obtain⟨post,_,hr⟩:=h.row;exact hr.lt
theorem FT.keep{row:Option Nat}(h:FT w base g cap F)(hg:w.grownBy w' row)(hne:row≠some g):FT w' base g cap F:=by
 obtain⟨post,h1,hr⟩:=h.row;exact⟨h.low,h.fits,h.most,post,h1,hr.keep (hg.block g hr.lt (fun e=>hne e.symm))⟩
theorem FT.below(h:FT w base g cap F)(hb:Below w.heap.size w w'):FT w' base g cap F:=h.keep (row:=none) (ak hb none) (by simp)
theorem FT.cell(h:FT w base g cap F){a b:Nat}(ha:a<F.length)(hb:b<2):w.cell? ⟨g,a*2+b,none⟩=some (.int .i64 (nk F a b)):=by
 obtain⟨post,_,hr⟩:=h.row;obtain⟨h1,h2⟩:=fU (f:=fk0) (h:=fk1) hr a ha;unfold nk;rw[List.getElem?_eq_getElem ha,Option.getD_some];rcases Nat.lt_or_ge b 1 with e | e
 ·obtain rfl:b=0:=by omega
  exact h1
 ·obtain rfl:b=1:=by omega
  exact h2
theorem FT.free(h:FT w base g cap F)(i:Nat):w.frozen? ⟨g,i,none⟩=false:=by
 obtain⟨post,_,hr⟩:=h.row;exact hr.free i
theorem Pf{α:Type}{f h:α→Value}(l:List α)(i:Nat)(x:α)(hi:i<l.length) :
  (h x=h l[i]→(cc2 f h l).set (i*2) (f x)=cc2 f h (l.set i x))∧(f x=f l[i]→(cc2 f h l).set (i*2+1) (h x)=cc2 f h (l.set i x)):=by
 have e:=Pg (f:=f) (h:=h) l i x hi;obtain⟨g1,g2⟩:=Pb (f:=f) (h:=h) l i hi;have hl:=fG (f:=f) (h:=h) l;constructor
 ·intro hx;rw[←e];apply List.ext_getElem?
  intro j;rw[List.getElem?_set];by_cases hj:i*2+1=j
  ·subst hj;rw[List.getElem?_set_self (by rw[List.length_set];omega),if_neg (by omega),g2,hx]
  ·rw[List.getElem?_set_ne hj,List.getElem?_set]
 ·intro hx;rw[←e];congr 1
  apply List.ext_getElem?
  intro j;by_cases hj:i*2=j
  ·subst hj;rw[List.getElem?_set_self (by omega),g1,hx]
  ·rw[List.getElem?_set_ne hj]
theorem aaS(F:List (Int×Int))(a b:Nat)(z:Int)(ha:a<F.length)(hb:b<2):(fkc F).set (a*2+b) (.int .i64 z)=fkc (JX F a b z):=by
 unfold JX;rw[List.getElem?_eq_getElem ha,Option.getD_some];rcases Nat.lt_or_ge b 1 with e | e
 ·obtain rfl:b=0:=by omega
  exact(Pf (f:=fk0) (h:=fk1) F a (z,F[a].2) ha).1 rfl
 ·obtain rfl:b=1:=by omega
  exact(Pf (f:=fk0) (h:=fk1) F a (F[a].1,z) ha).2 rfl
theorem FT.set(h:FT w base g cap F){a b:Nat}(z:Int)(ha:a<F.length)(hb:b<2):FT (w.setCell ⟨g,a*2+b,none⟩ (.int .i64 z)) base g cap (JX F a b z):=by
 obtain⟨post,h1,hr⟩:=h.row;have hs:=hr.aW (a*2+b) (.int .i64 z);rw[List.set_append_left _ _ (by rw[ru];omega),aaS F a b z ha hb]at hs;exact⟨h.low,by rw[cu];exact h.fits,h.most,post,by rw[cu];exact h1,hs⟩
theorem FT.own(h:FT w base g cap F):w.ownsRow base 271 2 (.slice (some ⟨g,0,none⟩) F.length cap) F.length (fkc F):=by
 obtain⟨post,h1,hr⟩:=h.row;have hl:=ru F;refine⟨hl,.inr ⟨g,cap,(fkc F++post).toArray,rfl,h.low,hr,h.fits,h.most,?_,?_⟩⟩
 ·rw[List.size_toArray,List.length_append];omega
 ·rw[List.toList_toArray,List.take_left' hl]
theorem CK{n:Nat}(hn:n=F.length)(h:w.ownsRow base 271 2 (.slice (some ⟨g,0,none⟩) n cap) n (fkc F)):FT w base g cap F:=by
 subst hn;have hl:=ru F;rcases h.2 with⟨h1,_⟩ | ⟨g',cap',cur,e,hb2,hg,hnc,hcm,hcs,ht⟩
 ·cases h1
 ·injection e with e1 _ e3
  injection e1 with e1
  injection e1 with e1
  subst e1 e3;refine⟨hb2,hnc,hcm,cur.toList.drop (F.length*2),?_,?_⟩
  ·have hcl:cur.toList.length=cur.size:=Array.length_toList;rw[List.length_drop];omega
  ·unfold Row;rw[←ht,List.take_append_drop,Array.toArray_toList];exact hg
theorem VK(F:List (Int×Int)):fkc F++[.int .i64 0,.int .i64 0]=fkc (F++[(0,0)]):=by
 unfold fkc;rw[qV];rfl
end
theorem Qv:(prog.info? 271).map (fun i=>(i.zero,i.size,i.bytes))=some (some (.agg #[.int .i64 0,.int .i64 0]),2,16):=by kernel_rfl
theorem VL:(madeCells #[Value.int .i64 0,.int .i64 0] 2).toList=fkc [(0,0)]:=by kernel_rfl
theorem Oj(W b:Nat)(hW:W<4294967296)(hb:b<32):bits .and .i64 (W:Int) (((2^b:Nat):Int)-1)=((W%2^b:Nat):Int):=by
 have hp:2^b<2^32:=Nat.pow_lt_pow_right (by omega) hb;have hpos:=Nat.two_pow_pos b;have h1:∀a:Nat,a<4294967296→(BitVec.ofInt 64 (a:Int)).toNat=a:=fun a ha=>by
  rw[BitVec.ofInt_natCast,BitVec.toNat_ofNat];exact Nat.mod_eq_of_lt (by omega)
 rw[show((2^b:Nat):Int)-1=((2^b-1:Nat):Int) by omega];show IntKind.i64.wrap ((BitVec.ofInt 64 (W:Int) &&& BitVec.ofInt 64 ((2^b-1:Nat):Int)).toNat:Int)=_;rw[BitVec.toNat_and,h1 W hW,h1 _ (by omega),Nat.and_two_pow_sub_one_eq_mod,IntKind.wrap_i64];have h2:=Nat.mod_lt W hpos;omega
theorem and_one(x:Nat)(hx:x<4294967296):bits .and .i64 (x:Int) 1=((x%2:Nat):Int):=by
 have h:=Oj x 1 hx (by omega);exact h
theorem FL(A B:Option Addr)(c d:Nat)(ls:List Nat)(w:World)(hW:bC ls)(hr:Reads w A (aM ls))(hs:Reads w B (aM (iU ls))) :
  Calls prog 179 #[.slice A ls.length c,.slice B ls.length d] w fun e w'=>∃g cap P F,e=.returned (.slice (some ⟨g,0,none⟩) (F:List (Int×Int)).length cap)∧FT w' w.heap.size g cap F∧Bm.Tr ls ls.length P F∧Below w.heap.size w w':=by
 obtain⟨i0,hi,hz0,hz1,hz2⟩:=info_parts Qv;have Hr:=hid hr;have Hs:=hid hs;have HW:=hid hW;have Da:=hW.1;clear hr hs hW;go_enter func179,ntmps179
 go_wp2_with (at_make;refine wpList_make_full _ rfl _ _ 235 rfl w.heap.size 271 i0 (.agg #[.int .i64 0,.int .i64 0]) 2 underlying235 hi hz0 hz1 .i64 .i64 _ _ 1 rfl rfl ?c1 ?c1 ?c2 ?c3 ?c4 ?_)
 case c1=>omega
 case c2=>first | omega | (rw[hz2];omega)
 case c3=>unfold maxLen;omega
 try case c4=>omega
 intro w1 hown1 hg1;have hb1:=aJ hg1;have ajy:FT w1 w.heap.size w.heap.size 1 [(0,0)]:=CK (n:=1) rfl (by rw[←VL];exact hown1);have aiw:=hid ajy;have Hb1:=hid hb1;have aiS:=hid (Bm.Tr.start ls);clear hown1 hg1 hb1 ajy;go_wp2;go_loopw [5,15] (fun fv iv wr=>∃(q g cap:Nat) (P:List (List Nat)) (F:List (Int×Int)),q≤ls.length∧iv=.int .i64 (q:Int)∧fv=.slice (some ⟨g,0,none⟩) F.length cap∧F.length≤1+11*q∧Hid (FT wr w.heap.size g cap F)∧Hid (Bm.Tr ls q P F)∧Hid (Below w.heap.size w wr)) (fun _ iv _=>ls.length-(intOf iv).toNat)
 case atStart=>exact⟨0,w.heap.size,1,[[]],[(0,0)],by omega,rfl,rfl,by simp,aiw,aiS,Hb1⟩
 case round=>
  obtain⟨q,g,cap,P,F,hq,rfl,rfl,hFl,hft,htr,hbel⟩:=hrel;clear aiw aiS Hb1;by_cases hql:q<ls.length
  ·obtain⟨gl,ol,rfl,hc⟩:=fQ (aC Hr.out hbel.out) (by omega);have c0:=hc q hql;have hge:ls[q]?.getD 0=ls[q]:=by rw[List.getElem?_eq_getElem hql,Option.getD_some]
   have h11:=HW.out.2.1 ls[q] (List.getElem_mem hql);have Hsk:=hid (fun h=>htr.out.skip h);have Hcl:=hid (aQ ls q);have Hc9:=hid (fun h=>uE ls q hql HW.out h);have Hcg:=hid (fun j h=>vo ls q j h);rw[hge]at Hsk Hcl Hc9 Hcg;clear hc hge;by_cases hx:ls[q]=0
   ·rw[hx]at c0;have agZ:=hid (Hsk.out hx);clear Hsk Hcl Hc9 Hcg htr;go_wp2;go_roundw
    case rel=>exact⟨q+1,g,cap,P,F,by omega,by go_num,rfl,by omega,hft,agZ,hbel⟩
    case measure=>simp[intOf];omega
   ·have hx0:0<ls[q]:=by omega
    obtain⟨gc,oc,rfl,hcc⟩:=fQ (aC Hs.out hbel.out) (by rw[jB];omega);have c1:=hcc q (by rw[jB];exact hql);rw[Cu ls q hql]at c1;have hc9:=Hc9.out hx0;clear hcc Hsk Hc9;generalize eO ls q=cn at *;obtain⟨n,hn⟩:∃n,ls[q]=n+1:=⟨ls[q]-1,by omega⟩;rw[hn]at c0 hc9 h11 Hcl Hcg;have hd0:((n:Int)+1 == 0)=false:=by rw[beq_eq_false_iff_ne];omega
    clear hx hx0 hn;have ajp:cn<2048:=Nat.lt_of_lt_of_le hc9 (Nat.pow_le_pow_right (n:=2) (j:=11) (by omega) h11);go_wp2;go_loopw [5,9,10] (fun fv av iv wr=>∃(j a g cap:Nat) (P:List (List Nat)) (F:List (Int×Int)),j≤n∧iv=.int .i64 ((n-j:Nat):Int)∧av=.int .i64 (a:Int)∧fv=.slice (some ⟨g,0,none⟩) F.length cap∧F.length≤1+11*q+j∧Hid (FT wr w.heap.size g cap F)∧Hid (Bm.Tr ls q P F)∧Hid (Below w.heap.size w wr)∧Hid (P[a]?=some ((aX ls q).take j))∧Hid (∀i,i≤j→(aX ls q).take i∈P)) (fun _ _ iv _=>(intOf iv).toNat)
    case atStart=>
     refine⟨0,0,g,cap,P,F,by omega,rfl,rfl,rfl,by omega,hft,htr,hbel,hid (by rw[List.take_zero];exact htr.out.root),hid (fun i hi=>?_)⟩;obtain rfl:i=0:=by omega
     rw[List.take_zero];exact List.mem_of_getElem? htr.out.root
    case round=>
     clear hft htr hbel c0 c1;obtain⟨j,a,g,cap,P,F,hj,rfl,rfl,rfl,hFl,hft,htr,hbel,hat,hall⟩:=hrel;rename World=>wx
     have hal:a<F.length:=by rw[htr.out.len];exact EF hat.out
     by_cases hjn:j<n
     ·have hjc:j<(aX ls q).length:=by rw[Hcl.out];omega
      have hbt:=Hcg.out j hjc;rw[Nat.add_sub_cancel]at hbt;have hb2:=kL ls q _ (List.getElem_mem hjc);have hpos:=htr.out.pos HW.out hql hjc hat.out;have hnx:=qD (aX ls q) j hjc;have hj2:j+1<(aX ls q).length:=by rw[Hcl.out];omega
      have Hgr:=hid (fun(h:nk F a (aX ls q)[j]=0)=>htr.out.grow hj2 hat.out h);have afV:=hid (fun(h:0<nk F a (aX ls q)[j])=>htr.out.on hat.out hb2 h);have hbit:bits .and .i64 ((cn:Int)/2^(n-j)) 1=(((aX ls q)[j]:Nat):Int):=by
       have h:=and_one (cn/2^(n-j)) (Nat.lt_of_le_of_lt (Nat.div_le_self _ _) (by omega));rw[hbt,←h];simp
      rw[←hnx]at afV;clear hbt hnx;generalize (aX ls q)[j]=bb at *;have cz:=hft.out.cell hal hb2;have fz:=hft.out.free (a*2+bb);have Hc7:=hid (fun(z:Int)=>Ap F a bb z hal);have BK:=hid (fun z=>hft.out.set z hal hb2);have hlen:=htr.out.len;by_cases hz:nk F a bb=0
      ·rw[hz]at cz;have agZ:=hid (Hgr.out hz);have ajz:=(BK.out (P.length:Int)).below ((Below.refl _ _).alloc (Nat.le_refl _) (.cells #[.int .i64 0,.int .i64 0] 271));have hown2:=ajz.own;rw[cu]at hown2;have qR:=hid hown2;have Hb2:=hid ((hbel.out.setCell (p:=⟨g,a*2+bb,none⟩) hft.out.low (.int .i64 (P.length:Int))).alloc (by simpa using hbel.out.size) (.cells #[.int .i64 0,.int .i64 0] 271));have hFb:F.length≤1+11*256+11:=by omega
       rw[←hlen]at qR Hb2;have Hlen:=hid hlen;have hrn:=Row.new (wx.setCell ⟨g,a*2+bb,none⟩ (.int .i64 (F.length:Int))) 271 [.int .i64 0,.int .i64 0];rw[show(wx.setCell ⟨g,a*2+bb,none⟩ (.int .i64 (F.length:Int))).heap.size=wx.heap.size by simp]at hrn;have dS:=hid (Ms (bR hrn));clear hrn hlen ajz hown2 BK Hgr afV hpos hft htr hbel;go_wp2_with (at_builtin;refine wpList_append_lies _ rfl _ _ 235 rfl w.heap.size 271 i0 (.agg #[.int .i64 0,.int .i64 0]) 2 16 underlying235 hi hz0 hz1 hz2 rfl (by decide) _ _ _ rfl qR.out ⟨wx.heap.size,0,none⟩ 1 1 [.int .i64 0,.int .i64 0] rfl rfl ?d1 ?d2 (by decide) ?d3 ?d4 ?d5 _ rfl ?_)
       case d1=>exact dS.out
       case d2=>intro u hu;simp at hu;subst hu;rfl
       case d3=>unfold maxLen;omega
       case d4=>omega
       case d5=>have:=Hb2.out.size;simpa using this
       intro g7 aja w7 bN gH agp ajH;rw[VK]at bN;have hl7:(JX F a bb (F.length:Int)++[(0,0)]).length=F.length+1:=by rw[List.length_append,cu];rfl
       have adq:=CK hl7.symm bN;have c7:=adq.cell (a:=a) (b:=bb) (by omega) hb2;rw[Pz _ _ _ _ (by rw[cu];exact hal),Hc7.out]at c7;have agJ:=hid adq;have Hb7:Hid (Below w.heap.size w w7):=hid (Hb2.out.grown gH Hb2.out.size (fun k e=>by have:=(qR.out.lt k e).1;exact this));have Hl7:=hid hl7;clear hl7 bN gH agp adq Hb2 qR hi hz0 hz1 hz2 cz fz;go_wp2;go_roundw
       case rel=>
        refine⟨j+1,F.length,g7,aja,P++[(aX ls q).take (j+1)],_,by omega,by go_num,rfl,by rw[Hl7.out],by rw[Hl7.out];omega,agJ,?_,Hb7,hid ?_,hid (fun i hi=>?_)⟩
        ·rw[Hlen.out];exact agZ
        ·rw[Hlen.out,List.getElem?_append_right (Nat.le_refl _),Nat.sub_self];rfl
        ·by_cases e:i=j+1
         ·subst e;simp
         ·exact List.mem_append_left _ (hall.out i (by omega))
       case measure=>simp[intOf];omega
      ·have hzp:0<nk F a bb:=by omega
       have hd1:(nk F a bb == 0)=false:=by rw[beq_eq_false_iff_ne];exact hz
       have agn:=afV.out hzp;obtain⟨z,hzz⟩:∃z:Nat,nk F a bb=(z:Int):=⟨(nk F a bb).toNat,by omega⟩;rw[hzz]at cz hd1 agn;rw[Int.toNat_natCast]at agn;have aik:=hid agn;clear BK Hgr afV hpos hlen hzz hz hzp Hc7 fz agn;go_wp2;go_roundw
       case rel=>
        refine⟨j+1,z,g,cap,P,F,by omega,by go_num,rfl,rfl,by omega,hft,htr,hbel,aik,hid (fun i hi=>?_)⟩;by_cases e:i=j+1
        ·subst e;exact Jq aik.out
        ·exact hall.out i (by omega)
       case measure=>simp[intOf];omega
     ·obtain rfl:j=n:=by omega
      rw[Nat.sub_self];have hjc:j<(aX ls q).length:=by rw[Hcl.out];omega
      have hbt:=Hcg.out j hjc;rw[Nat.add_sub_cancel,Nat.sub_self,Nat.pow_zero,Nat.div_one]at hbt;have hb2:=kL ls q _ (List.getElem_mem hjc);have Hlf:=hid (htr.out.leaf Hcl.out.symm hat.out hall.out);have hbit:bits .and .i64 (cn:Int) 1=(((aX ls q)[j]:Nat):Int):=by
       rw[hbt];exact and_one cn (by omega)
      clear hbt;generalize (aX ls q)[j]=bb at *;have cz:=hft.out.cell hal hb2;have fz:=hft.out.free (a*2+bb);have BK:=hid (hft.out.set (-1-(q:Int)) hal hb2);have Hb3:=hid (hbel.out.setCell (p:=⟨g,a*2+bb,none⟩) hft.out.low (.int .i64 (-1-(q:Int))));have hsl:=cu F a bb (-1-(q:Int));have Hsl:=hid hsl;clear hft htr hbel hat hall hsl;go_wp2;go_roundw
      case rel=>exact⟨q+1,g,cap,P,_,by omega,by go_num,by rw[Hsl.out],by rw[Hsl.out];omega,BK,Hlf,Hb3⟩
      case measure=>simp[intOf];omega
  ·obtain rfl:q=ls.length:=by omega
   go_wp2;go_ret;exact⟨g,cap,P,F,rfl,hft.out,htr.out,hbel.out⟩
end Go.Proofs.YtgiicohbigiapaaGreat
namespace Go.Proofs.YtgiicohbigiapaaGreat.Bm
theorem fC(a b:Nat×Nat):lt2 a b↔(a.1<b.1∨(a.1=b.1∧a.2<b.2)):=Iff.rfl
abbrev at2(l:List (Nat×Nat))(i:Nat):Nat×Nat:=l[i]?.getD (0,0)
theorem xu(l:List (Nat×Nat))(i j k:Nat)(hi:i<l.length)(hj:j<l.length):at2 (swp (0,0) l i j) k=if k=j then at2 l i else if k=i then at2 l j else at2 l k:=by
 unfold at2 swp;rw[List.getElem?_set,List.length_set];by_cases h1:j=k
 ·subst h1;rw[if_pos rfl,if_pos rfl,if_pos hj,Option.getD_some]
 ·rw[if_neg h1,if_neg (fun h=>h1 h.symm),List.getElem?_set];by_cases h2:i=k
  ·subst h2;rw[if_pos rfl,if_pos rfl,if_pos hi,Option.getD_some]
  ·rw[if_neg h2,if_neg (fun h=>h2 h.symm)]
theorem qB(l:List (Nat×Nat))(i j:Nat)(hi:i<l.length)(hj:j<l.length):(swp (0,0) l i j).Perm l:=by
 unfold swp;rw[List.getElem?_eq_getElem hi,List.getElem?_eq_getElem hj,Option.getD_some,Option.getD_some];rcases Nat.lt_trichotomy i j with h | h | h
 ·exact List.set_set_perm hi hj
 ·subst h;exact List.set_set_perm hi hj
 ·exact List.set_set_perm hi hj
def jo(l:List (Nat×Nat))(n:Nat):Prop:=∀k,0<k→k<n→¬lt2 (at2 l k) (at2 l ((k-1)/2))
def UpN(l:List (Nat×Nat))(n j:Nat):Prop:=(∀k,0<k→k<n→k≠j→¬lt2 (at2 l k) (at2 l ((k-1)/2)))∧(0<j→∀k,0<k→k<n→(k-1)/2=j→¬lt2 (at2 l k) (at2 l ((j-1)/2)))
def Kq(l:List (Nat×Nat))(n i:Nat):Prop:=(∀k,0<k→k<n→(k-1)/2≠i→¬lt2 (at2 l k) (at2 l ((k-1)/2)))∧(0<i→∀k,0<k→k<n→(k-1)/2=i→¬lt2 (at2 l k) (at2 l ((i-1)/2)))
theorem acY(l:List (Nat×Nat))(n:Nat)(h:UpN l n 0):jo l n:=fun k h0 hk=>h.1 k h0 hk (by omega)
theorem afR(l:List (Nat×Nat))(n j:Nat)(h:UpN l n j)(hj:¬lt2 (at2 l j) (at2 l ((j-1)/2))):jo l n:=fun k h0 hk=>by
 by_cases e:k=j
 ·subst e;exact hj
 ·exact h.1 k h0 hk e
theorem acZ(l:List (Nat×Nat))(n j:Nat)(hn:n≤l.length)(hj:j<n)(h0:0<j)(h:UpN l n j)(hlt:lt2 (at2 l j) (at2 l ((j-1)/2))):UpN (swp (0,0) l ((j-1)/2) j) n ((j-1)/2):=by
 obtain⟨p,hp⟩:∃p,p=(j-1)/2:=⟨_,rfl⟩;rw[←hp]at hlt ⊢;obtain⟨h1,h2⟩:=h;rw[←hp]at h2;have hs:=fun k=>xu l p j k (by omega) (by omega)
 refine⟨fun k k0 kn kp=>?_,fun p0 k k0 kn kp=>?_⟩
 ·rw[hs,hs];by_cases e:k=j
  ·subst e;rw[if_pos rfl,←hp,if_neg (by omega),if_pos rfl];rw[fC]at hlt ⊢;omega
  ·rw[if_neg e,if_neg kp];by_cases e2:(k-1)/2=j
   ·rw[if_pos e2];exact h2 h0 k k0 kn e2
   ·rw[if_neg e2];by_cases e3:(k-1)/2=p
    ·rw[if_pos e3];have:=h1 k k0 kn e;rw[e3]at this;rw[fC]at hlt this ⊢;omega
    ·rw[if_neg e3];exact h1 k k0 kn e
 ·rw[hs,hs,if_neg (show ¬(p-1)/2=j by omega),if_neg (show ¬(p-1)/2=p by omega)];have hpp:=h1 p p0 (by omega) (by omega);by_cases e:k=j
  ·rw[if_pos e];exact hpp
  ·rw[if_neg e,if_neg (show ¬k=p by omega)];have:=h1 k k0 kn e;rw[kp]at this;rw[fC]at this hpp ⊢;omega
theorem uF(l:List (Nat×Nat))(n i:Nat)(h:Kq l n i)(hi:∀k,0<k→k<n→(k-1)/2=i→¬lt2 (at2 l k) (at2 l i)):jo l n:=fun k h0 hk=>by
 by_cases e:(k-1)/2=i
 ·rw[e];exact hi k h0 hk e
 ·exact h.1 k h0 hk e
theorem vG(l:List (Nat×Nat))(n i j:Nat)(hn:n≤l.length)(hj:j<n)(h0:0<j)(hji:(j-1)/2=i)(h:Kq l n i)(hlt:lt2 (at2 l j) (at2 l i))(aeZ:∀k,0<k→k<n→(k-1)/2=i→¬lt2 (at2 l k) (at2 l j)) :
  Kq (swp (0,0) l i j) n j:=by
 obtain⟨h1,h2⟩:=h;have hs:=fun k=>xu l i j k (by omega) (by omega)
 refine⟨fun k k0 kn kp=>?_,fun _ k k0 kn kp=>?_⟩
 ·rw[hs,hs];by_cases e:k=j
  ·subst e;rw[if_pos rfl,hji,if_neg (by omega),if_pos rfl];rw[fC]at hlt ⊢;omega
  ·rw[if_neg e,if_neg kp];by_cases e2:(k-1)/2=i
   ·rw[if_pos e2,if_neg (show ¬k=i by omega)];exact aeZ k k0 kn e2
   ·rw[if_neg e2];by_cases e3:k=i
    ·rw[if_pos e3];have:=h2 (by omega) j h0 hj hji;rw[e3];exact this
    ·rw[if_neg e3];exact h1 k k0 kn e2
 ·rw[hs,hs,hji,if_neg (show ¬k=j by omega),if_neg (show ¬k=i by omega),if_neg (show ¬i=j by omega),if_pos rfl];have:=h1 k k0 kn (by omega);rw[kp]at this;exact this
theorem Lr(l:List (Nat×Nat))(n:Nat)(h:jo l n):∀k,k<n→¬lt2 (at2 l k) (at2 l 0):=by
 intro k;induction k using Nat.strongRecOn with
 | _ k ih=>
  intro hk;by_cases e:k=0
  ·subst e;rw[fC];omega
  ·have h1:=h k (by omega) hk;have h2:=ih ((k-1)/2) (by omega) (by omega);rw[fC]at h1 h2 ⊢;omega
theorem Qe(l:List (Nat×Nat))(x:Nat×Nat)(h:jo l l.length):UpN (l++[x]) (l.length+1) l.length:=by
 have hg:∀k,k<l.length→at2 (l++[x]) k=at2 l k:=fun k hk=>by
  unfold at2;rw[List.getElem?_append_left hk]
 refine⟨fun k k0 kn kj=>?_,fun h0 k k0 kn kp=>by omega⟩;rw[hg k (by omega),hg ((k-1)/2) (by omega)];exact h k k0 (by omega)
theorem Wd(l:List (Nat×Nat))(n:Nat)(hn:l.length=n+1)(h:jo l (n+1)):Kq (swp (0,0) l 0 n) n 0:=by
 have hs:=fun k=>xu l 0 n k (by omega) (by omega)
 refine⟨fun k k0 kn kp=>?_,fun h0=>by omega⟩;rw[hs,hs,if_neg (by omega),if_neg (by omega),if_neg (by omega),if_neg kp];exact h k k0 (by omega)
theorem Qf(l:List (Nat×Nat))(n:Nat)(h:jo l n):jo (l.take n) n:=fun k k0 kn=>by
 have hg:∀k,k<n→at2 (l.take n) k=at2 l k:=fun k hk=>by
  unfold at2;rw[List.getElem?_take,if_pos hk]
 rw[hg k kn,hg _ (by omega)];exact h k k0 kn
def iM(cs:List Nat)(k:Nat):List (Nat×Nat):=(List.range k).flatMap fun i=>if 0<cs[i]?.getD 0 then [(cs[i]?.getD 0,i)]else []
def lvs(cs:List Nat):List (Nat×Nat):=iM cs cs.length
theorem iQ(cs:List Nat)(k:Nat):iM cs (k+1)=iM cs k++if 0<cs[k]?.getD 0 then [(cs[k]?.getD 0,k)]else []:=by
 unfold iM;rw[List.range_succ,List.flatMap_append];simp
theorem ko(cs:List Nat):∀k,(iM cs k).length≤k
 | 0=>by simp[iM]
 | k+1=>by
  have:=ko cs k;rw[iQ,List.length_append];split<;>simp<;>omega
theorem bX(cs:List Nat)(k:Nat)(t:Nat×Nat):t∈iM cs k↔t.2<k∧t.1=cs[t.2]?.getD 0∧0<t.1:=by
 unfold iM;rw[List.mem_flatMap];constructor
 ·rintro⟨i,hi,ht⟩;have hi:=List.mem_range.1 hi;split at ht
  ·next h=>simp at ht;subst ht;exact⟨hi,rfl,h⟩
  ·simp at ht
 ·rintro⟨h1,h2,h3⟩;refine⟨t.2,List.mem_range.2 h1,?_⟩;rw[if_pos (by omega),←h2];simp
theorem AJ(cs:List Nat)(F:Nat×Nat→Nat):∀k,((iM cs k).map F).sum=((List.range k).map fun i=>if 0<cs[i]?.getD 0 then F (cs[i]?.getD 0,i)else 0).sum
 | 0=>by simp[iM]
 | k+1=>by
  rw[iQ,List.map_append,List.sum_append_nat,AJ cs F k,List.range_succ,List.map_append,List.sum_append_nat];split<;>simp_all
theorem Dn(cs:List Nat):∀k,k≤cs.length→(iM cs k).map (·.1)=je (cs.take k)
 | 0,_=>by simp[iM,je]
 | k+1,h=>by
  rw[iQ,List.map_append,Dn cs k (by omega),RJ cs k (by omega),List.getElem?_eq_getElem (by omega),Option.getD_some];congr 1
  split<;>simp
theorem mJ(cs:List Nat):(lvs cs).map (·.1)=je cs:=by
 unfold lvs;rw[Dn cs cs.length (Nat.le_refl _),List.take_length]
abbrev bH(l:List Nat)(i:Nat):Nat:=l[i]?.getD 0
def NN(A:List Nat)(d:Nat→Nat):Prop:=∀i,i<A.length→bH A i≠0→d i=d (bH A i)+1
def NK(L:List (Nat×Nat))(d:Nat→Nat):Nat:=(L.map fun t=>t.1*d t.2).sum
def MX(D:Nat)(L:List (Nat×Nat))(d:Nat→Nat):Nat:=(L.map fun t=>2^(D-d t.2)).sum
structure zV(cs A:List Nat)(L:List (Nat×Nat))(C:Nat):Prop where
 len:cs.length≤A.length
 free:∀t∈L,t.2<A.length∧bH A t.2=0
 apart:(L.map (·.2)).Nodup
 above:∀i,i<A.length→bH A i≠0→i<bH A i∧bH A i<A.length
 none:∀i,i<cs.length→bH cs i=0→bH A i=0
 some:∀i,i<cs.length→0<bH cs i→bH A i≠0∨i∈L.map (·.2)
 cost:∀d,NN A d→NK (lvs cs) d=NK L d+C
 vR:∀d D,NN A d→(∀i,d i≤D)→MX D (lvs cs) d=MX D L d
 best:C+nS (L.map (·.1))=nS (je cs)
 last:cs.length<A.length→A.length-1∈L.map (·.2)
 count:L.length+(A.length-cs.length)=(lvs cs).length
 total:(L.map (·.1)).sum=(je cs).sum
 pos:∀t∈L,t.2<cs.length→0<bH cs t.2
theorem qd(cs:List Nat):∀k,((iM cs k).map (·.2)).Nodup
 | 0=>by simp[iM]
 | k+1=>by
  rw[iQ,List.map_append];have ih:=qd cs k;split
  ·rw[List.nodup_append];refine⟨ih,by simp,?_⟩;intro a ha b hb;obtain⟨t,ht,rfl⟩:=List.mem_map.1 ha;have:=((bX cs k t).1 ht).1;simp at hb;omega
  ·simpa using ih
theorem kT(n i:Nat):bH (List.replicate n 0) i=0:=by
 unfold bH;rw[List.getElem?_replicate];split<;>rfl
theorem LD(cs:List Nat)(L:List (Nat×Nat))(h:L.Perm (lvs cs)):zV cs (List.replicate cs.length 0) L 0 where
 len:=by simp
 free:=fun t ht=>by
  have:=(bX cs _ t).1 (h.mem_iff.1 ht);exact⟨by simpa using this.1,kT _ _⟩
 apart:=(h.map _).nodup_iff.2 (qd cs _)
 above:=fun i _ h=>absurd (kT _ _) h
 none:=fun i _ _=>kT _ _
 some:=fun i hi h0=>.inr ((h.map _).mem_iff.2 (List.mem_map.2 ⟨(bH cs i,i),(bX cs _ _).2 ⟨hi,rfl,h0⟩,rfl⟩))
 cost:=fun d _=>by unfold NK;rw[(h.map _).sum_nat];rfl
 vR:=fun d D _ _=>by unfold MX;rw[(h.map _).sum_nat]
 best:=by rw[Nat.zero_add,jY (h.map _),mJ]
 last:=fun h=>by simp at h
 count:=by simp[h.length_eq]
 total:=by rw[(h.map _).sum_nat,mJ]
 pos:=fun t ht _=>by
  have:=(bX cs _ t).1 (h.mem_iff.1 ht);unfold bH;omega
theorem acE(A:List Nat)(a b P i:Nat)(ha:a<A.length)(hb:b<A.length):bH ((A.set a P).set b P++[0]) i=if i=a∨i=b then P else bH A i:=by
 unfold bH;by_cases h1:i<A.length
 ·rw[List.getElem?_append_left (by simpa using h1),List.getElem?_set,List.getElem?_set,List.length_set];by_cases e1:b=i
  ·subst e1;rw[if_pos rfl,if_pos hb,if_pos (.inr rfl)];rfl
  ·rw[if_neg e1];by_cases e2:a=i
   ·subst e2;rw[if_pos rfl,if_pos ha,if_pos (.inl rfl)];rfl
   ·rw[if_neg e2,if_neg (by omega)]
 ·rw[List.getElem?_append_right (by simpa using h1),if_neg (by omega),List.getElem?_eq_none (show A.length≤i by omega),List.getElem?_singleton];split<;>rfl
theorem join_step{cs A:List Nat}{L R L':List (Nat×Nat)}{C wa a wb b:Nat}(h:zV cs A L C)(hp:L.Perm ((wa,a) :: (wb,b) :: R))(hab:wa≤wb)(hR:∀y∈R,wb≤y.1)(h2:2≤A.length)(hL':L'.Perm ((wa+wb,A.length) :: R)) :
  zV cs ((A.set a A.length).set b A.length++[0]) L' (C+(wa+wb)):=by
 have ma:=h.free (wa,a) (hp.mem_iff.2 (by simp));have mb:=h.free (wb,b) (hp.mem_iff.2 (by simp));have hR2:∀t∈R,t.2<A.length∧bH A t.2=0:=fun t ht=>h.free t (hp.mem_iff.2 (by simp[ht]))
 have hnd:=(hp.map (·.2)).nodup_iff.1 h.apart;simp only[List.map_cons,List.nodup_cons,List.mem_cons,not_or]at hnd;obtain⟨⟨hne,haR⟩,hbR,hRn⟩:=hnd;have hs:=fun i=>acE A a b A.length i ma.1 mb.1
 have hlen:((A.set a A.length).set b A.length++[0]).length=A.length+1:=by simp
 have ajv:∀d,NN ((A.set a A.length).set b A.length++[0]) d→NN A d∧d a=d A.length+1∧d b=d A.length+1:=fun d hd=>by
  refine⟨fun i hi hA=>?_,?_,?_⟩
  ·have h1:=hd i (by omega);rw[hs,if_neg (by
    rintro(rfl | rfl)
    ·exact hA ma.2
    ·exact hA mb.2)]at h1
   exact h1 hA
  ·have h1:=hd a (by have:=ma.1;omega);rw[hs,if_pos (.inl rfl)]at h1;exact h1 (by omega)
  ·have h1:=hd b (by have:=mb.1;omega);rw[hs,if_pos (.inr rfl)]at h1;exact h1 (by omega)
 refine⟨by rw[hlen];have:=h.len;omega,fun t ht=>?_,?_,fun i hi hA=>?_,fun i hi h0=>?_,fun i hi h0=>?_,fun d hd=>?_,fun d D hd hD=>?_,?_,fun _=>?_,?_,?_,fun t ht hc=>?_⟩
 ·rw[hlen,hs];rcases List.mem_cons.1 (hL'.mem_iff.1 ht)with rfl | ht
  ·refine⟨by show A.length<A.length+1;omega,?_⟩;rw[if_neg (by have:=ma.1;have:=mb.1;simp only;omega)];unfold bH;rw[List.getElem?_eq_none (by exact Nat.le_refl _)];rfl
  ·have h1:=hR2 t ht;refine⟨by omega,?_⟩;rw[if_neg (by
    rintro(e | e)
    ·exact haR (List.mem_map.2 ⟨t,ht,e⟩)
    ·exact hbR (List.mem_map.2 ⟨t,ht,e⟩))]
   exact h1.2
 ·refine(hL'.map (·.2)).nodup_iff.2 ?_;rw[List.map_cons,List.nodup_cons];refine⟨fun hm=>?_,hRn⟩;obtain⟨t,ht,e⟩:=List.mem_map.1 hm;have:=(hR2 t ht).1;simp only at e;omega
 ·rw[hs]at hA ⊢;rw[hlen]at hi ⊢;split at hA
  ·next hc=>
   rw[if_pos hc];have:=ma.1;have:=mb.1;omega
  ·next hc=>
   rw[if_neg hc];have hi2:i<A.length:=by
    rcases Nat.lt_or_ge i A.length with h1 | h1
    ·exact h1
    ·exfalso
     apply hA
     unfold bH;rw[List.getElem?_eq_none h1];rfl
   have:=h.above i hi2 hA;omega
 ·rw[hs];have h1:=h.none i hi h0;rw[if_neg ?_]
  ·exact h1
  ·rintro(rfl | rfl)
   ·have:=h.pos (wa,i) (hp.mem_iff.2 (by simp)) hi;simp only at this;omega
   ·have:=h.pos (wb,i) (hp.mem_iff.2 (by simp)) hi;simp only at this;omega
 ·rw[hs];have:=h.len;rcases h.some i hi h0 with h1 | h1
  ·left
   split
   ·omega
   ·exact h1
  ·rw[(hp.map _).mem_iff]at h1;simp only[List.map_cons,List.mem_cons]at h1;rcases h1 with h1 | h1 | h1
   ·left;rw[if_pos (.inl h1)];omega
   ·left;rw[if_pos (.inr h1)];omega
   ·right
    rw[(hL'.map _).mem_iff];simp[h1]
 ·obtain⟨h1,h3,h4⟩:=ajv d hd;have e1:NK L d=wa*d a+(wb*d b+NK R d):=by
   unfold NK;rw[(hp.map _).sum_nat,List.map_cons,List.map_cons,List.sum_cons,List.sum_cons]
  have e2:NK L' d=(wa+wb)*d A.length+NK R d:=by
   unfold NK;rw[(hL'.map _).sum_nat,List.map_cons,List.sum_cons]
  rw[h.cost d h1,e1,e2,h3,h4,Nat.mul_succ,Nat.mul_succ,Nat.add_mul];omega
 ·obtain⟨h1,h3,h4⟩:=ajv d hd;have e1:MX D L d=2^(D-d a)+(2^(D-d b)+MX D R d):=by
   unfold MX;rw[(hp.map _).sum_nat,List.map_cons,List.map_cons,List.sum_cons,List.sum_cons]
  have e2:MX D L' d=2^(D-d A.length)+MX D R d:=by
   unfold MX;rw[(hL'.map _).sum_nat,List.map_cons,List.sum_cons]
  have hDa:=hD a;rw[h.vR d D h1 hD,e1,e2,h3,h4,show D-d A.length=(D-(d A.length+1))+1 by omega,Nat.pow_succ];omega
 ·have e1:nS (L.map (·.1))=(wa+wb)+nS (R.map (·.1)++[wa+wb]):=by
   rw[jY (hp.map _)];simp only[List.map_cons];exact Lh wa wb (R.map (·.1)) hab (fun x hx=>by
    obtain⟨y,hy,rfl⟩:=List.mem_map.1 hx;exact hR y hy)
  have e2:nS (L'.map (·.1))=nS (R.map (·.1)++[wa+wb]):=by
   rw[jY (hL'.map _)];simp only[List.map_cons];exact jY (List.perm_append_singleton _ _).symm
  have:=h.best;omega
 ·rw[hlen,Nat.add_sub_cancel,(hL'.map _).mem_iff];simp
 ·have h1:=h.count;have h3:=hp.length_eq;have h4:=hL'.length_eq;have:=h.len;simp only[List.length_cons]at h3 h4;rw[hlen];omega
 ·have h1:=h.total;rw[(hp.map _).sum_nat]at h1;rw[(hL'.map _).sum_nat,←h1];simp only[List.map_cons,List.sum_cons];omega
 ·rcases List.mem_cons.1 (hL'.mem_iff.1 ht)with rfl | ht
  ·have:=h.len;simp only at hc;omega
  ·exact h.pos t (hp.mem_iff.2 (by simp[ht])) hc
structure aar(cs ls:List Nat):Prop where
 len:ls.length=cs.length
 just:∀i,i<cs.length→(0<ls[i]?.getD 0↔0<cs[i]?.getD 0)
 whole:(∀x∈ls,x≤11)→bC ls
 cost:KW cs ls=Vg cs
 most:∀x∈ls,x≤512
theorem pI(cs ls:List Nat):KW cs ls=((lvs cs).map fun t=>t.1*bH ls t.2).sum:=by
 unfold lvs;rw[AJ];unfold KW;congr 1
 apply List.map_congr_left
 intro i _;split
 ·rfl
 ·next h=>rw[show cs[i]?.getD 0=0 by omega,Nat.zero_mul]
theorem QB(cs ls:List Nat)(hl:ls.length=cs.length)(hj:∀i,i<cs.length→(0<ls[i]?.getD 0↔0<cs[i]?.getD 0)):krN ls=((lvs cs).map fun t=>2^(11-bH ls t.2)).sum:=by
 unfold lvs;rw[AJ,pX,hl];congr 1
 apply List.map_congr_left
 intro i hi;have h1:=hj i (List.mem_range.1 hi);unfold dB bH;by_cases h:0<cs[i]?.getD 0
 ·rw[if_pos h,if_neg (by omega)]
 ·rw[if_neg h,if_pos (by omega)]
structure NP(A ls:List Nat):Prop where
 len:ls.length=A.length
 none:∀i,i<A.length→bH A i=0→bH ls i=0
 some:∀i,i<A.length→bH A i≠0→bH ls i=bH ls (bH A i)+1
 most:∀i,i<A.length→bH ls i≤A.length-i
theorem Wo{cs A ls:List Nat}{t:Nat×Nat}{C:Nat}(h:zV cs A [t] C)(hd:NP A ls)(h2:2≤(lvs cs).length)(aaW:cs.length≤256)(hA:A.length≤512):aar cs (ls.take cs.length):=by
 have hcnt:=h.count;have hlen:=h.len;simp only[List.length_singleton]at hcnt;have hlast:=h.last (by omega);simp only[List.map_cons,List.map_nil,List.mem_singleton]at hlast;have hfree:=h.free t (by simp);have hok:NN A (bH ls):=fun i hi h0=>hd.some i hi h0
 have hdt:bH ls t.2=0:=hd.none t.2 hfree.1 hfree.2;have hg:∀i,i<cs.length→(ls.take cs.length)[i]?.getD 0=bH ls i:=fun i hi=>by rw[List.getElem?_take,if_pos hi]
 have Wh:∀i,i<cs.length→(0<(ls.take cs.length)[i]?.getD 0↔0<cs[i]?.getD 0):=fun i hi=>by
  rw[hg i hi];constructor
  ·intro h1;rcases Nat.eq_zero_or_pos (cs[i]?.getD 0)with h0 | h0
   ·have:=hd.none i (by omega) (h.none i hi h0);omega
   ·exact h0
  ·intro h0;rcases h.some i hi h0 with h1 | h1
   ·have:=hd.some i (by omega) h1;omega
   ·simp only[List.map_cons,List.map_nil,List.mem_singleton]at h1;omega
 have htl:(ls.take cs.length).length=cs.length:=by rw[List.length_take,hd.len];omega
 have hmem:∀u∈lvs cs,u.2<cs.length:=fun u hu=>((bX cs _ u).1 hu).1
 refine⟨htl,Wh,fun h11=>⟨by omega,h11,.inl ?_⟩,?_,?_⟩
 ·rw[QB cs _ htl Wh];obtain⟨D,hD,ami⟩:∃D,(∀i,bH ls i≤D)∧11≤D:=⟨512,fun i=>by
   rcases Nat.lt_or_ge i A.length with hi | hi
   ·have:=hd.most i hi;omega
   ·unfold bH;rw[List.getElem?_eq_none (by rw[hd.len];exact hi)];exact Nat.zero_le _,by omega⟩
  have hk:=h.vR (bH ls) D hok hD;have e1:MX D [t] (bH ls)=2^D:=by simp[MX,hdt]
  have e2:MX D (lvs cs) (bH ls)=2^(D-11)*((lvs cs).map fun u=>2^(11-bH (ls.take cs.length) u.2)).sum:=by
   unfold MX;have:∀L:List (Nat×Nat),(∀u∈L,u∈lvs cs)→(L.map fun u=>2^(D-bH ls u.2)).sum=2^(D-11)*(L.map fun u=>2^(11-bH (ls.take cs.length) u.2)).sum:=fun L=>by
    induction L with
    | nil=>intro _;rfl
    | cons u L ih=>
     intro hL;have hu:=hmem u (hL u (by simp));have h5:bH (ls.take cs.length) u.2≤11:=by
      unfold bH;rw[List.getElem?_eq_getElem (by omega),Option.getD_some];exact h11 _ (List.getElem_mem _)
     rw[List.map_cons,List.sum_cons,List.map_cons,List.sum_cons,ih (fun v hv=>hL v (by simp[hv])),Nat.mul_add,←Nat.pow_add];have e3:bH (ls.take cs.length) u.2=bH ls u.2:=hg u.2 hu;rw[e3]at h5 ⊢;rw[show D-11+(11-bH ls u.2)=D-bH ls u.2 by omega]
   exact this _ (fun _ h=>h)
  rw[e1,e2,show D=(D-11)+11 by omega,Nat.pow_add,Nat.add_sub_cancel]at hk;have h2k:(2:Nat)^11=2048:=by decide
  rw[h2k]at hk;exact Nat.eq_of_mul_eq_mul_left (Nat.two_pow_pos _) hk
 ·rw[pI];have hc:=h.cost (bH ls) hok;have e1:NK [t] (bH ls)=0:=by simp[NK,hdt]
  have hb:=h.best;have hb0:nS ([t].map (·.1))=0:=Qa _ (by simp);have hne:(je cs).length≠1:=by rw[←mJ,List.length_map];omega
  unfold Vg;rw[if_neg hne,←hb,hb0,Nat.add_zero];rw[e1,Nat.zero_add]at hc;rw[←hc];unfold NK;congr 1
  apply List.map_congr_left
  intro u hu;rw[show bH (ls.take cs.length) u.2=bH ls u.2 from hg u.2 (hmem u hu)]
 ·intro x hx;obtain⟨i,hi,rfl⟩:=List.mem_iff_getElem.1 hx;rw[htl]at hi;have h5:=hd.most i (by omega);have h6:=hg i hi;rw[List.getElem?_eq_getElem (by omega),Option.getD_some]at h6;rw[h6];omega
theorem Ua{cs:List Nat}{c i:Nat}(h:lvs cs=[(c,i)])(aaW:cs.length≤256):aar cs ((List.replicate cs.length 0).set i 1):=by
 have hm:=(bX cs cs.length (c,i)).1 (show(c,i)∈lvs cs by rw[h];simp);simp only at hm;obtain⟨hi,hc,h0⟩:=hm;have hg:∀k,k<cs.length→((List.replicate cs.length 0).set i 1)[k]?.getD 0=if k=i then 1 else 0:=fun k hk=>by
  rw[List.getElem?_set];by_cases e:i=k
  ·subst e;rw[if_pos rfl,if_pos (by simpa using hk),if_pos rfl];rfl
  ·rw[if_neg e,if_neg (fun h=>e h.symm)];exact kT _ _
 have hl:((List.replicate cs.length 0).set i 1).length=cs.length:=by simp
 have hj:∀k,k<cs.length→(0<((List.replicate cs.length 0).set i 1)[k]?.getD 0↔0<cs[k]?.getD 0):=fun k hk=>by
  rw[hg k hk];by_cases e:k=i
  ·subst e;rw[if_pos rfl];omega
  ·rw[if_neg e];constructor
   ·intro h;omega
   ·intro h1;have:(cs[k]?.getD 0,k)∈lvs cs:=(bX cs _ _).2 ⟨hk,rfl,h1⟩;rw[h]at this;simp at this;omega
 have hms:∀x∈(List.replicate cs.length 0).set i 1,x≤1:=fun x hx=>by
  obtain⟨k,hk,rfl⟩:=List.mem_iff_getElem.1 hx;have h1:=hg k (by omega);rw[List.getElem?_eq_getElem (by omega),Option.getD_some]at h1;rw[h1];split<;>omega
 have hn1:bH ((List.replicate cs.length 0).set i 1) i=1:=by rw[bH,hg i hi,if_pos rfl]
 have hkr:krN ((List.replicate cs.length 0).set i 1)=1024:=by
  rw[QB cs _ hl hj,h];simp[hn1]
 refine⟨hl,hj,fun h11=>⟨by omega,h11,.inr ⟨?_,hkr⟩⟩,?_,fun x hx=>by have:=hms x hx;omega⟩
 ·unfold ji;have:∀(n k:Nat),k<n→((List.replicate n 0).set k 1).countP (fun n=>decide (0<n))=1:=fun n=>by
   induction n with
   | zero=>intro k hk;omega
   | succ n ih=>
    intro k hk;rw[List.replicate_succ];cases k with
    | zero=>simp[List.countP_replicate]
    | succ k=>
     rw[List.set_cons_succ,List.countP_cons,ih k (by omega)];simp
  exact this _ _ hi
 ·rw[pI,h];have hp:je cs=[c]:=by rw[←mJ,h];rfl
  unfold Vg;rw[hp];simp[hn1]
end Go.Proofs.YtgiicohbigiapaaGreat.Bm
namespace Go.Proofs.YtgiicohbigiapaaGreat
open Go.RowKit
theorem Qw:(prog.info? 223).map (fun i=>(i.zero,i.size,i.bytes))=some (some (.agg #[.int .i64 0,.int .i64 0]),2,16):=by kernel_rfl
theorem TH(v:Value)(W:World):(Instr.typeAssert (.iface 223 v) 20 223 true).run prog W=.ok (.tuple #[v,.bool true]) W:=by kernel_rfl
theorem abN(L:List Nod)(a q:Nat):n2 L++[.int .i64 (a:Int),.int .i64 (q:Int)]=n2 (L++[(a,q)]):=by
 unfold n2;rw[qV];rfl
theorem Xj{base p g cap a q gN oF:Nat}{L:List Nod}{w w1 wN:World}(hp:jq w1 base p g cap L)(hw:Below w.heap.size w w1)(hb:base≤w.heap.size)
  (ho:wN.ownsRow base 223 2 (.slice (some ⟨gN,0,none⟩) (L.length+1) oF) (L.length+1) (n2 L++[.int .i64 (a:Int),.int .i64 (q:Int)])) (hg:w1.grownBy wN (some g)) :
  jq (wN.setCell ⟨p,0,none⟩ (.slice (some ⟨gN,0,none⟩) (L.length+1) oF)) base p gN oF (L++[(a,q)])∧gY base w (wN.setCell ⟨p,0,none⟩ (.slice (some ⟨gN,0,none⟩) (L.length+1) oF)):=by
 obtain⟨post,hpl,hrow⟩:=hp.row;have hv:Row wN p 258 [.slice (some ⟨g,0,none⟩) L.length cap]:=hp.var.keep (hg.block p hp.var.lt (fun e=>by injection e with e;exact hp.ne e));have hv2:=hv.aW 0 (.slice (some ⟨gN,0,none⟩) (L.length+1) oF);have hv3:Row (wN.setCell ⟨p,0,none⟩ (.slice (some ⟨gN,0,none⟩) (L.length+1) oF)) p 258 [.slice (some ⟨gN,0,none⟩) (L++[(a,q)]).length oF]:=by
  rw[List.length_append];exact hv2
 rw[abN]at ho;have hne:(Value.slice (some ⟨gN,0,none⟩) (L.length+1) oF).ownBlock≠some p:=fun e=>by
  obtain⟨c,fz,hk⟩:=Lib.ownsRow_kind ho p e;unfold Row at hv;rw[hv]at hk;injection hk with hk
  injection hk with _ hk
  exact absurd hk (by decide)
 have ho2:=ownsRow_setCell_other ho (a:=⟨p,0,none⟩) hne (.slice (some ⟨gN,0,none⟩) (L.length+1) oF);refine⟨Gg hv3 hp.abD (by rw[List.length_append];exact ho2),?_⟩;have k1:gY base w w1:=gY.below hw hb;have k2:gY base w1 wN:=gY.grown hg hrow (.inr rfl) hp.abC;have k3:gY base wN (wN.setCell ⟨p,0,none⟩ (.slice (some ⟨gN,0,none⟩) (L.length+1) oF)):=gY.grown (aH (au wN (some p)) 0 _) hv (.inl rfl) hp.abD;exact(k1.trans k2).trans k3
theorem Nl(base p g cap a q:Nat)(L:List Nod)(w:World)(hb:base≤w.heap.size)(hL:L.length≤100000)(hp:jq w base p g cap L) :
  Calls prog 257 #[.pointer (some ⟨p,0,none⟩),.iface 223 (.agg #[.int .i64 (a:Int),.int .i64 (q:Int)])] w fun e w'=>e=.returned (.tuple #[])∧∃g' cap',jq w' base p g' cap' (L++[(a,q)])∧gY base w w':=by
 obtain⟨i0,hi,hz0,hz1,hz2⟩:=info_parts Qw;have Hp:=hid hp;clear hp;go_enter func257,ntmps257
 have hta:=fun W=>TH (.agg #[.int .i64 (a:Int),.int .i64 (q:Int)]) W
 go_wp2_with fail
 clear hta;obtain⟨w1,hw1⟩:∃w1,w1=w.alloc (.cells #[.int .i64 (a:Int),.int .i64 (q:Int)] 223):=⟨_,rfl⟩;have hbl:Below w.heap.size w w1:=by rw[hw1];exact(Below.refl _ _).alloc (Nat.le_refl _) _
 have hp1:=Hp.out.below hbl;have Zj:Row w1 w.heap.size 223 [.int .i64 (a:Int),.int .i64 (q:Int)]:=by rw[hw1];exact Row.new w _ _
 have hgb:g<w.heap.size:=by
  obtain⟨_,_,hr⟩:=Hp.out.row;exact hr.lt
 rw[←hw1];have hs1:w1.heap.size=w.heap.size+1:=by rw[hw1];simp
 clear hw1;have hcp:∀W,w1.grownBy W (some g)→W.cell? ⟨p,0,none⟩=some (.slice (some ⟨g,0,none⟩) L.length cap):=fun W hW=>by
  rw[hW.cell_far _ (by exact hp1.var.lt) (fun e=>hp1.ne (by injection e)),hp1.cell]
 have hfp:∀W,w1.grownBy W (some g)→W.frozen? ⟨p,0,none⟩=false:=fun W hW=>by
  rw[hW.frozen_far _ (by exact hp1.var.lt) (fun e=>hp1.ne (by injection e)),hp1.var.free]
 have hb0:∀W,w1.grownBy W (some g)→W.cell? ⟨w.heap.size,0,none⟩=some (.int .i64 (a:Int)):=fun W hW=>by
  rw[hW.cell_far _ (by exact Zj.lt) (fun e=>by injection e with e;exact absurd (show w.heap.size=g from e) (by omega)),Zj.cell];rfl
 have hb1:∀W,w1.grownBy W (some g)→W.cell? ⟨w.heap.size,1,none⟩=some (.int .i64 (q:Int)):=fun W hW=>by
  rw[hW.cell_far _ (by exact Zj.lt) (fun e=>by injection e with e;exact absurd (show w.heap.size=g from e) (by omega)),Zj.cell];rfl
 have c0:=hcp w1 (au w1 _);have c1:=hb0 w1 (au w1 _);have c2:=hb1 w1 (au w1 _);have c0A:=hcp (w1.alloc (.cells #[.int .i64 (a:Int),.int .i64 (q:Int)] 223)) (aD (au w1 _) _);have Hcp:=hid hcp;have Hfp:=hid hfp;have Hbl:=hid hbl;have Hp1:=hid hp1;have Hoa:Hid ((w1.alloc (.cells #[.int .i64 (a:Int),.int .i64 (q:Int)] 223)).drew.ownsRow base 223 2 (.slice (some ⟨g,0,none⟩) L.length cap) L.length (n2 L)):=hid (hp1.own.alloc _);have dS:Hid (∀(j:Nat) (u:Value),[Value.int .i64 (a:Int),Value.int .i64 (q:Int)][j]?=some u→(w1.alloc (.cells #[.int .i64 (a:Int),.int .i64 (q:Int)] 223)).drew.cell? ((⟨w1.heap.size,0,none⟩:Addr).add j)=some u):=hid (fun j u hu=>by
  match j,hu with
  | 0,hu=>simp at hu;subst hu;simp[Addr.add]
  | 1,hu=>simp at hu;subst hu;simp[Addr.add])
 have hs0:base≤w1.heap.size:=by omega
 clear hcp hfp hb0 hb1 hbl hp1 Zj Hp hs1 hgb;go_region_law ((refine step_append_lies ((w1.alloc (.cells #[.int .i64 (a:Int),.int .i64 (q:Int)] 223)).drew) (by rfl) _ _ _ (by rfl) base 223 i0 (.agg #[.int .i64 0,.int .i64 0]) 2 16 underlying258 hi hz0 hz1 hz2 rfl (by omega) (.slice (some ⟨g,0,none⟩) L.length cap) L.length (n2 L) (by rfl) Hoa.out ⟨w1.heap.size,0,none⟩ 1 1 [.int .i64 (a:Int),.int .i64 (q:Int)] (by rfl) (by rfl) dS.out (by intro u hu;simp at hu;rcases hu with rfl | rfl<;>rfl) (by omega) (by unfold maxLen;omega) (by omega) (by simp;omega) (w1.heap.size+1) (by simp) ?_;intro gN oF wN hoN hgN NC _;have HoN:=hid hoN;have HGN:Hid (w1.grownBy wN (some g)):=hid ((bA (aD (au w1 (some g)) _)).trans hgN);have csN:=Hcp.out wN HGN.out;have fsN:=Hfp.out wN HGN.out;clear hoN hgN NC))
 all_goals
  go_wp2_with fail
  go_end0
  obtain⟨r1,r2⟩:=Xj Hp1.out Hbl.out hb HoN.out HGN.out;exact⟨rfl,gN,oF,r1,r2⟩
theorem abO(L:List Nod)(k:Nat):n2 (L.take k)=(n2 L).take (k*2):=Vm L k
theorem acj{base p g cap n:Nat}{L:List Nod}{w w1:World}(hp:jq w1 base p g cap L)(hw:Below w.heap.size w w1)(hb:base≤w.heap.size)(hn:L.length=n+1) :
  jq (w1.setCell ⟨p,0,none⟩ (.slice (some ⟨g,0,none⟩) n cap)) base p g cap (L.take n)∧cO base p g w (w1.setCell ⟨p,0,none⟩ (.slice (some ⟨g,0,none⟩) n cap)):=by
 obtain⟨post,hpl,hrow⟩:=hp.row;have hv:=hp.var;have hv2:=hv.aW 0 (.slice (some ⟨g,0,none⟩) n cap);have hlt:(L.take n).length=n:=by rw[List.length_take];omega
 have hv3:Row (w1.setCell ⟨p,0,none⟩ (.slice (some ⟨g,0,none⟩) n cap)) p 258 [.slice (some ⟨g,0,none⟩) (L.take n).length cap]:=by
  rw[hlt];exact hv2
 have hf:=hp.fits;have hl:=fG (f:=Dv) (h:=Du) L;have k1:cO base p g w w1:=cO.below hw hb;have k3:cO base p g w1 (w1.setCell ⟨p,0,none⟩ (.slice (some ⟨g,0,none⟩) n cap)):=cO.grown (aH (au w1 (some p)) 0 _) hv.lt (.inl rfl) hp.abD;refine⟨⟨hp.abD,hp.abC,by omega,hp.most,hv3,(n2 L).drop (n*2)++post,?_,?_⟩,k1.trans k3⟩
 ·rw[List.length_append,List.length_drop,hlt];unfold n2;omega
 ·rw[abO,←List.append_assoc,List.take_append_drop];exact hrow.far (fun e=>hp.ne e.symm) _
theorem Uc(base p g cap n:Nat)(L:List Nod)(w:World)(hb:base≤w.heap.size)(hL:L.length≤100000)(hn:L.length=n+1)(hp:jq w base p g cap L) :
  Calls prog 256 #[.pointer (some ⟨p,0,none⟩)] w fun e w'=>e=.returned (.iface 223 (.agg #[Dv (L[n]?.getD (0,0)),Du (L[n]?.getD (0,0))]))∧jq w' base p g cap (L.take n)∧cO base p g w w':=by
 have Hp:=hid hp;have c0:=hp.cell;obtain⟨post,hpl,hrow⟩:=hp.row;obtain⟨k0,k1⟩:=fU (f:=Dv) (h:=Du) hrow n (by omega);have hge:L[n]?.getD (0,0)=L[n]:=by rw[List.getElem?_eq_getElem (by omega),Option.getD_some]
 rw[hge];have gV:=hid (acj hp (Below.refl _ _) hb hn);have hf0:w.frozen? ⟨p,0,none⟩=false:=hp.var.free 0;have hpb:=hp.var.lt;have hgb:=hrow.lt;have hft:=hp.fits;have Hn:Hid (L.length=n+1):=hid hn;clear hp hrow hpl hge;simp only[Dv,Du]at k0 k1 ⊢;generalize L[n].1=a at *;generalize L[n].2=q at *;rw[hn]at c0 hft;have hn1:n≤100000:=by omega
 clear hn hL Hp;go_enter func256,ntmps256
 go_wp2_with fail
 go_ret;obtain⟨r1,r2⟩:=gV.out;have hb2:=(Below.refl (w.setCell ⟨p,0,none⟩ (.slice (some ⟨g,0,none⟩) n cap)).heap.size _).alloc (Nat.le_refl _) (.cells #[.int .i64 (a:Int),.int .i64 (q:Int)] 223);exact⟨rfl,r1.below hb2,r2.trans (cO.below hb2 (Nat.le_trans hb r2.bel.size))⟩
section
variable {w:World} {base p g cap n c:Nat} {L:List Nod}
theorem wJ(h:jq w base p g cap L)(i j:Nat)(hi:i<L.length)(hj:j<L.length) :
  Calls prog 255 #[.slice (some ⟨g,0,none⟩) L.length cap,.int .i64 (i:Int),.int .i64 (j:Int)] w fun e w'=>e=.returned (.bool (decide (lt2 (Bm.at2 L i) (Bm.at2 L j))))∧Below w.heap.size w w':=by
 obtain⟨post,_,hr⟩:=h.row;have h1:=fU (f:=Dv) (h:=Du) hr i hi;have h2:=fU (f:=Dv) (h:=Du) hr j hj;unfold Bm.at2;rw[List.getElem?_eq_getElem hi,List.getElem?_eq_getElem hj,Option.getD_some,Option.getD_some];exact Nk g L.length cap i j L[i] L[j] w hi hj h1 h2
theorem wK(h:jq w base p g cap L)(i j:Nat)(hi:i<L.length)(hj:j<L.length) :
  Calls prog 258 #[.slice (some ⟨g,0,none⟩) L.length cap,.int .i64 (i:Int),.int .i64 (j:Int)] w fun e w'=>e=.returned (.tuple #[])∧jq w' base p g cap (swp (0,0) L i j)∧cO base p g w w':=by
 obtain⟨post,hl,hr⟩:=h.row;refine(Nn g cap i j L post w hi hj hr).mono ?_;rintro e w' ⟨he,h1,h2⟩;exact⟨he,h.same (nK _ _ _ _) h2 hl h1,cO.grown h2 hr.lt (.inr rfl) h.abC⟩
end
theorem pU:∀args w,(callFunc 255 args).run prog w=.ok (.enter 255 args) w:=enters_of func255 (by kernel_rfl) rfl
theorem pV:∀args w,(callFunc 258 args).run prog w=.ok (.enter 258 args) w:=enters_of func258 (by kernel_rfl) rfl
theorem PE:∀args w,(callFunc 168 args).run prog w=.ok (.enter 168 args) w:=enters_of func168 (by kernel_rfl) rfl
theorem VE:∀args w,(callFunc 257 args).run prog w=.ok (.enter 257 args) w:=enters_of func257 (by kernel_rfl) rfl
theorem aaO:∀args w,(callFunc 256 args).run prog w=.ok (.enter 256 args) w:=enters_of func256 (by kernel_rfl) rfl
theorem Wi(base p g cap j:Nat)(L:List Nod)(w:World)(hb:base≤w.heap.size)(hL:L.length≤100000)(hj:j<L.length)(hp:jq w base p g cap L)(hu:UpN L L.length j) :
  Calls prog 218 #[.iface 220 (.pointer (some ⟨p,0,none⟩)),.int .i64 (j:Int)] w fun e w'=>e=.returned (.tuple #[])∧∃L',L'.Perm L∧jo L' L'.length∧jq w' base p g cap L'∧cO base p g w w':=by
 obtain⟨n,hn⟩:∃n,n=L.length:=⟨_,rfl⟩;rw[←hn]at hL hj hu;have Hn:=hid hn;have Hp:=hid hp;have Hu:=hid hu;clear hn hp hu;go_enter func218,ntmps218
 go_wp2;go_loopw [1] (fun jv wr=>∃(j:Nat) (L':List Nod),jv=.int .i64 (j:Int)∧j<n∧Hid (L'.Perm L)∧Hid (UpN L' n j)∧Hid (jq wr base p g cap L')∧Hid (cO base p g w wr)) (fun jv _=>(intOf jv).toNat)
 case atStart=>exact⟨j,L,rfl,hj,hid (List.Perm.refl _),Hu,Hp,hid (cO.refl _ _ _ _)⟩
 case round=>
  obtain⟨j,L',rfl,hj,hperm,hup,hpl,hk⟩:=hrel;clear Hp Hu;have hlen:L'.length=n:=by rw[hperm.out.length_eq,Hn.out]
  have Hlen:=hid hlen;have c0:=hpl.out.cell;rw[hlen]at c0;clear hlen;by_cases h0:j=0
  ·subst h0;have hfin:∃L',L'.Perm L∧jo L' L'.length∧jq wr base p g cap L'∧cO base p g w wr:=⟨L',hperm.out,by rw[Hlen.out];exact acY _ _ hup.out,hpl.out,hk.out⟩;have Hf:=hid hfin;clear hfin;go_wp2;go_end0
   exact⟨rfl,Hf.out⟩
  ·have mL:=wL p n cap (some ⟨g,0,none⟩) wr c0;have eL:=pU;obtain⟨i,hi⟩:∃i,i=(j-1)/2:=⟨_,rfl⟩;have hq:((j-1:Nat):Int)/2=(i:Int):=by omega
   have hq2:((j:Int)-1)/2=(i:Int):=by omega
   have hij:i<j:=by omega
   have hl:=wJ hpl.out j i (by rw[Hlen.out];exact hj) (by rw[Hlen.out];omega);rw[Hlen.out]at hl;have Hl:=hid hl;have Hi:=hid hi;clear hl hi;obtain⟨r,hr⟩:∃r,r=decide (lt2 (Bm.at2 L' j) (Bm.at2 L' i)):=⟨_,rfl⟩;rw[←hr]at Hl;have Hr:=hid hr;clear hr;go_wp2_with fail
   refine Hl.out.mono ?_;rintro e w1 ⟨rfl,hb1⟩;clear hq hq2;have yg:=hpl.out.below hb1;have Hk1:=hid (hk.out.trans (cO.below hb1 (Nat.le_trans hb hk.out.bel.size)));have c1:=yg.cell;rw[Hlen.out]at c1;have UK:=hid yg;clear hb1 yg mL eL c0 hk hpl Hl;cases r with
   | false=>
    have hlt:¬lt2 (Bm.at2 L' j) (Bm.at2 L' i):=by have:=Hr.out;simpa using this.symm
    rw[Hi.out]at hlt;have hfin:∃L',L'.Perm L∧jo L' L'.length∧jq w1 base p g cap L'∧cO base p g w w1:=⟨L',hperm.out,by rw[Hlen.out];exact afR _ _ _ hup.out hlt,UK.out,Hk1.out⟩;have Hf:=hid hfin;clear hfin hlt;go_wp2;go_end0
    exact⟨rfl,Hf.out⟩
   | true=>
    have hlt:lt2 (Bm.at2 L' j) (Bm.at2 L' i):=by have:=Hr.out;simpa using this.symm
    have Hlt:=hid hlt;have mS:=wM p n cap (some ⟨g,0,none⟩) w1 c1;have eS:=pV;have hs:=wK UK.out i j (by rw[Hlen.out];omega) (by rw[Hlen.out];exact hj);rw[Hlen.out]at hs;have Hs:=hid hs;clear hs hlt;go_wp2_with fail
    refine Hs.out.mono ?_;rintro e w2 ⟨rfl,LA,hk2⟩;have akm:UpN (swp (0,0) L' i j) n i:=by
     have h1:=acZ L' n j (by rw[Hlen.out];exact Nat.le_refl _) hj (by omega) hup.out (by rw[←Hi.out];exact Hlt.out);rw[←Hi.out]at h1;exact h1
    have alg:=hid akm;have akV:=hid LA;have Hk2:=hid (Hk1.out.trans hk2);have akX:=hid ((qB L' i j (by rw[Hlen.out];omega) (by rw[Hlen.out];exact hj)).trans hperm.out);clear akm LA hk2 mS eS Hs c1;go_wp2;go_roundw
    case rel=>exact⟨i,swp (0,0) L' i j,rfl,by omega,akX,alg,akV,Hk2⟩
    case measure=>simp[intOf];omega
def NM(e:Ending):Prop:=∃b,e=.returned (.bool b)
theorem uz(b:Bool):NM (.returned (.bool b)):=⟨b,rfl⟩
theorem Lx(base p g cap n:Nat)(L:List Nod)(w:World)(hb:base≤w.heap.size)(hL:L.length≤100000)(hn:n<L.length)(hp:jq w base p g cap L)(hd:Kq L n 0) :
  Calls prog 219 #[.iface 220 (.pointer (some ⟨p,0,none⟩)),.int .i64 0,.int .i64 (n:Int)] w fun e w'=>NM e∧∃L',L'.Perm L∧jo L' n∧(∀k,n≤k→Bm.at2 L' k=Bm.at2 L k)∧jq w' base p g cap L'∧cO base p g w w':=by
 obtain⟨nL,hnL⟩:∃nL,nL=L.length:=⟨_,rfl⟩;rw[←hnL]at hL hn;have HnL:=hid hnL;have Hp:=hid hp;have Hd:=hid hd;clear hnL hp hd;go_enter func219,ntmps219
 go_wp2;go_loopw [7] (fun iv wr=>∃(i:Nat) (L':List Nod),iv=.int .i64 (i:Int)∧i≤n∧Hid (L'.Perm L)∧Hid (∀k,n≤k→Bm.at2 L' k=Bm.at2 L k)∧Hid (Kq L' n i)∧Hid (jq wr base p g cap L')∧Hid (cO base p g w wr)) (fun iv _=>n-(intOf iv).toNat)
 case atStart=>exact⟨0,L,rfl,by omega,hid (List.Perm.refl _),hid (fun _ _=>rfl),Hd,Hp,hid (cO.refl _ _ _ _)⟩
 case round=>
  obtain⟨i,L',rfl,hi,hperm,hsame,hdn,hpl,hk⟩:=hrel;clear Hp Hd;have hlen:L'.length=nL:=by rw[hperm.out.length_eq,HnL.out]
  have Hlen:=hid hlen;have c0:=hpl.out.cell;rw[hlen]at c0;clear hlen;by_cases h1:n≤2*i+1
  ·have hfin:∃L',L'.Perm L∧jo L' n∧(∀k,n≤k→Bm.at2 L' k=Bm.at2 L k)∧jq wr base p g cap L'∧cO base p g w wr:=⟨L',hperm.out,uF _ _ _ hdn.out (fun k k0 kn ki=>by omega),hsame.out,hpl.out,hk.out⟩;have Hf:=hid hfin;clear hfin;go_wp2;go_ret;exact⟨uz _,Hf.out⟩
  ·by_cases h2:n≤2*i+2
   ·have sJ:Hid (∀k,0<k→k<n→(k-1)/2=i→¬lt2 (Bm.at2 L' k) (Bm.at2 L' (2*i+1))):=hid (fun k k0 kn ki=>by
     obtain rfl:k=2*i+1:=by omega
     rw[fC];omega)
    have mL2:=wL p nL cap (some ⟨g,0,none⟩) wr c0;have eL2:=pU;have hl2:=wJ hpl.out (2*i+1) i (by rw[Hlen.out];omega) (by rw[Hlen.out];omega);rw[Hlen.out]at hl2;obtain⟨r2,hr2⟩:∃r2,r2=decide (lt2 (Bm.at2 L' (2*i+1)) (Bm.at2 L' i)):=⟨_,rfl⟩;rw[←hr2]at hl2;have Hr2:=hid hr2;have Hl2:=hid hl2;clear hr2 hl2;have hcast:Value.int IntKind.i64 (((2*i+1:Nat)):Int)=.int .i64 (2*(i:Int)+1):=by go_num
    rw[hcast]at Hl2;clear hcast;go_wp2_with fail
    refine Hl2.out.mono ?_;rintro e w3 ⟨rfl,hb3⟩;have Jb:=hpl.out.below hb3;have Hk3:=hid (hk.out.trans (cO.below hb3 (Nat.le_trans hb hk.out.bel.size)));have c3:=Jb.cell;rw[Hlen.out]at c3;have YU:=hid Jb;clear hb3 Jb mL2 eL2 c0 Hl2;cases r2 with
    | false=>
     have hlt:¬lt2 (Bm.at2 L' (2*i+1)) (Bm.at2 L' i):=by have:=Hr2.out;simpa using this.symm
     have hfin:∃L',L'.Perm L∧jo L' n∧(∀k,n≤k→Bm.at2 L' k=Bm.at2 L k)∧jq w3 base p g cap L'∧cO base p g w w3:=⟨L',hperm.out,uF _ _ _ hdn.out (fun k k0 kn ki=>by
      have h1:=sJ.out k k0 kn ki;rw[fC]at h1 hlt ⊢;omega),hsame.out,YU.out,Hk3.out⟩
     have Hf:=hid hfin;clear hfin hlt;go_wp2;go_ret;exact⟨uz _,Hf.out⟩
    | true=>
     have hlt:lt2 (Bm.at2 L' (2*i+1)) (Bm.at2 L' i):=by have:=Hr2.out;simpa using this.symm
     have Hlt:=hid hlt;have mS:=wM p nL cap (some ⟨g,0,none⟩) w3 c3;have eS:=pV;have hs:=wK YU.out i (2*i+1) (by rw[Hlen.out];omega) (by rw[Hlen.out];omega);rw[Hlen.out]at hs;have Hs:=hid hs;clear hs hlt;go_wp2_with fail
     refine Hs.out.mono ?_;rintro e w4 ⟨rfl,Zn,hk4⟩;have adR:=hid (vG L' n i (2*i+1) (by rw[Hlen.out];omega) (by omega) (by omega) (by omega) hdn.out Hlt.out sJ.out);have aef:=hid Zn;have Hk4:=hid (Hk3.out.trans hk4);have aeh:=hid ((qB L' i (2*i+1) (by rw[Hlen.out];omega) (by rw[Hlen.out];omega)).trans hperm.out);have aek:Hid (∀k,n≤k→Bm.at2 (swp (0,0) L' i (2*i+1)) k=Bm.at2 L k):=hid (fun k hk=>by
      rw[xu L' i (2*i+1) k (by rw[Hlen.out];omega) (by rw[Hlen.out];omega),if_neg (by omega),if_neg (by omega)];exact hsame.out k hk)
     clear Zn hk4 mS eS Hs c3;go_wp2;go_roundw
     case rel=>exact⟨(2*i+1),swp (0,0) L' i (2*i+1),by go_num,by omega,aeh,aek,adR,aef,Hk4⟩
     case measure=>simp[intOf];omega
   ·have mL:=wL p nL cap (some ⟨g,0,none⟩) wr c0;have eL:=pU;have hl:=wJ hpl.out (2*i+2) (2*i+1) (by rw[Hlen.out];omega) (by rw[Hlen.out];omega);rw[Hlen.out]at hl;obtain⟨r,hr⟩:∃r,r=decide (lt2 (Bm.at2 L' (2*i+2)) (Bm.at2 L' (2*i+1))):=⟨_,rfl⟩;rw[←hr]at hl;have Hr:=hid hr;rw[show((2*i+2:Nat):Int)=2*(i:Int)+1+1 by omega,show((2*i+1:Nat):Int)=2*(i:Int)+1 by omega]at hl;have Hl:=hid hl;clear hr hl;go_wp2_with fail
    refine Hl.out.mono ?_;rintro e w1 ⟨rfl,hb1⟩;have yg:=hpl.out.below hb1;have Hk1:=hid (hk.out.trans (cO.below hb1 (Nat.le_trans hb hk.out.bel.size)));have c1:=yg.cell;rw[Hlen.out]at c1;have UK:=hid yg;clear hb1 yg mL eL c0 hk hpl Hl;cases r with
    | false=>
     have hlt:¬lt2 (Bm.at2 L' (2*i+2)) (Bm.at2 L' (2*i+1)):=by have:=Hr.out;simpa using this.symm
     have sJ:Hid (∀k,0<k→k<n→(k-1)/2=i→¬lt2 (Bm.at2 L' k) (Bm.at2 L' (2*i+1))):=hid (fun k k0 kn ki=>by
      obtain rfl | rfl:k=2*i+1∨k=2*i+2:=by omega
      ·rw[fC];omega
      ·exact hlt)
     clear hlt;have mL2:=wL p nL cap (some ⟨g,0,none⟩) w1 c1;have eL2:=pU;have hl2:=wJ UK.out (2*i+1) i (by rw[Hlen.out];omega) (by rw[Hlen.out];omega);rw[Hlen.out]at hl2;obtain⟨r2,hr2⟩:∃r2,r2=decide (lt2 (Bm.at2 L' (2*i+1)) (Bm.at2 L' i)):=⟨_,rfl⟩;rw[←hr2]at hl2;have Hr2:=hid hr2;have Hl2:=hid hl2;clear hr2 hl2;have hcast:Value.int IntKind.i64 (((2*i+1:Nat)):Int)=.int .i64 (2*(i:Int)+1):=by go_num
     rw[hcast]at Hl2;clear hcast;go_wp2_with fail
     refine Hl2.out.mono ?_;rintro e w3 ⟨rfl,hb3⟩;have Jb:=UK.out.below hb3;have Hk3:=hid (Hk1.out.trans (cO.below hb3 (Nat.le_trans hb Hk1.out.bel.size)));have c3:=Jb.cell;rw[Hlen.out]at c3;have YU:=hid Jb;clear hb3 Jb mL2 eL2 c1 Hl2;cases r2 with
     | false=>
      have hlt:¬lt2 (Bm.at2 L' (2*i+1)) (Bm.at2 L' i):=by have:=Hr2.out;simpa using this.symm
      have hfin:∃L',L'.Perm L∧jo L' n∧(∀k,n≤k→Bm.at2 L' k=Bm.at2 L k)∧jq w3 base p g cap L'∧cO base p g w w3:=⟨L',hperm.out,uF _ _ _ hdn.out (fun k k0 kn ki=>by
       have h1:=sJ.out k k0 kn ki;rw[fC]at h1 hlt ⊢;omega),hsame.out,YU.out,Hk3.out⟩
      have Hf:=hid hfin;clear hfin hlt;go_wp2;go_ret;exact⟨uz _,Hf.out⟩
     | true=>
      have hlt:lt2 (Bm.at2 L' (2*i+1)) (Bm.at2 L' i):=by have:=Hr2.out;simpa using this.symm
      have Hlt:=hid hlt;have mS:=wM p nL cap (some ⟨g,0,none⟩) w3 c3;have eS:=pV;have hs:=wK YU.out i (2*i+1) (by rw[Hlen.out];omega) (by rw[Hlen.out];omega);rw[Hlen.out]at hs;have Hs:=hid hs;clear hs hlt;go_wp2_with fail
      refine Hs.out.mono ?_;rintro e w4 ⟨rfl,Zn,hk4⟩;have adR:=hid (vG L' n i (2*i+1) (by rw[Hlen.out];omega) (by omega) (by omega) (by omega) hdn.out Hlt.out sJ.out);have aef:=hid Zn;have Hk4:=hid (Hk3.out.trans hk4);have aeh:=hid ((qB L' i (2*i+1) (by rw[Hlen.out];omega) (by rw[Hlen.out];omega)).trans hperm.out);have aek:Hid (∀k,n≤k→Bm.at2 (swp (0,0) L' i (2*i+1)) k=Bm.at2 L k):=hid (fun k hk=>by
       rw[xu L' i (2*i+1) k (by rw[Hlen.out];omega) (by rw[Hlen.out];omega),if_neg (by omega),if_neg (by omega)];exact hsame.out k hk)
      clear Zn hk4 mS eS Hs c3;go_wp2;go_roundw
      case rel=>exact⟨(2*i+1),swp (0,0) L' i (2*i+1),by go_num,by omega,aeh,aek,adR,aef,Hk4⟩
      case measure=>simp[intOf];omega
    | true=>
     have hlt:lt2 (Bm.at2 L' (2*i+2)) (Bm.at2 L' (2*i+1)):=by have:=Hr.out;simpa using this.symm
     have sJ:Hid (∀k,0<k→k<n→(k-1)/2=i→¬lt2 (Bm.at2 L' k) (Bm.at2 L' (2*i+2))):=hid (fun k k0 kn ki=>by
      obtain rfl | rfl:k=2*i+1∨k=2*i+2:=by omega
      ·rw[fC]at hlt ⊢;omega
      ·rw[fC];omega)
     clear hlt;have mL2:=wL p nL cap (some ⟨g,0,none⟩) w1 c1;have eL2:=pU;have hl2:=wJ UK.out (2*i+2) i (by rw[Hlen.out];omega) (by rw[Hlen.out];omega);rw[Hlen.out]at hl2;obtain⟨r2,hr2⟩:∃r2,r2=decide (lt2 (Bm.at2 L' (2*i+2)) (Bm.at2 L' i)):=⟨_,rfl⟩;rw[←hr2]at hl2;have Hr2:=hid hr2;have Hl2:=hid hl2;clear hr2 hl2;have hcast:Value.int IntKind.i64 (((2*i+2:Nat)):Int)=.int .i64 (2*(i:Int)+1+1):=by go_num
     rw[hcast]at Hl2;clear hcast;go_wp2_with fail
     refine Hl2.out.mono ?_;rintro e w3 ⟨rfl,hb3⟩;have Jb:=UK.out.below hb3;have Hk3:=hid (Hk1.out.trans (cO.below hb3 (Nat.le_trans hb Hk1.out.bel.size)));have c3:=Jb.cell;rw[Hlen.out]at c3;have YU:=hid Jb;clear hb3 Jb mL2 eL2 c1 Hl2;cases r2 with
     | false=>
      have hlt:¬lt2 (Bm.at2 L' (2*i+2)) (Bm.at2 L' i):=by have:=Hr2.out;simpa using this.symm
      have hfin:∃L',L'.Perm L∧jo L' n∧(∀k,n≤k→Bm.at2 L' k=Bm.at2 L k)∧jq w3 base p g cap L'∧cO base p g w w3:=⟨L',hperm.out,uF _ _ _ hdn.out (fun k k0 kn ki=>by
       have h1:=sJ.out k k0 kn ki;rw[fC]at h1 hlt ⊢;omega),hsame.out,YU.out,Hk3.out⟩
      have Hf:=hid hfin;clear hfin hlt;go_wp2;go_ret;exact⟨uz _,Hf.out⟩
     | true=>
      have hlt:lt2 (Bm.at2 L' (2*i+2)) (Bm.at2 L' i):=by have:=Hr2.out;simpa using this.symm
      have Hlt:=hid hlt;have mS:=wM p nL cap (some ⟨g,0,none⟩) w3 c3;have eS:=pV;have hs:=wK YU.out i (2*i+2) (by rw[Hlen.out];omega) (by rw[Hlen.out];omega);rw[Hlen.out]at hs;have Hs:=hid hs;clear hs hlt;go_wp2_with fail
      refine Hs.out.mono ?_;rintro e w4 ⟨rfl,Zn,hk4⟩;have adR:=hid (vG L' n i (2*i+2) (by rw[Hlen.out];omega) (by omega) (by omega) (by omega) hdn.out Hlt.out sJ.out);have aef:=hid Zn;have Hk4:=hid (Hk3.out.trans hk4);have aeh:=hid ((qB L' i (2*i+2) (by rw[Hlen.out];omega) (by rw[Hlen.out];omega)).trans hperm.out);have aek:Hid (∀k,n≤k→Bm.at2 (swp (0,0) L' i (2*i+2)) k=Bm.at2 L k):=hid (fun k hk=>by
       rw[xu L' i (2*i+2) k (by rw[Hlen.out];omega) (by rw[Hlen.out];omega),if_neg (by omega),if_neg (by omega)];exact hsame.out k hk)
      clear Zn hk4 mS eS Hs c3;go_wp2;go_roundw
      case rel=>exact⟨(2*i+2),swp (0,0) L' i (2*i+2),by go_num,by omega,aeh,aek,adR,aef,Hk4⟩
      case measure=>simp[intOf];omega
def ow(w:World)(base p:Nat)(L:List Nod):Prop:=jo L L.length∧∃g cap,jq w base p g cap L
theorem yX(base p a q:Nat)(L:List Nod)(w:World)(hb:base≤w.heap.size)(hL:L.length<100000)(hp:ow w base p L) :
  Calls prog 202 #[.iface 220 (.pointer (some ⟨p,0,none⟩)),.iface 223 (.agg #[.int .i64 (a:Int),.int .i64 (q:Int)])] w fun e w'=>e=.returned (.tuple #[])∧∃L',L'.Perm ((a,q) :: L)∧ow w' base p L'∧gY base w w':=by
 obtain⟨hh,g,cap,hpl⟩:=hp;have EC:=hid (Nl base p g cap a q L w hb (by omega) hpl);have Hh:=hid hh;clear hh hpl;have mP:=aci p w;have eP:=VE;go_enter func202,ntmps202
 go_wp2_with fail
 refine EC.out.mono ?_;rintro e w1 ⟨rfl,g1,agk,yg,hk1⟩;have hlen:(L++[(a,q)]).length=L.length+1:=by simp
 have c1:=yg.cell;rw[hlen]at c1;have hup:=Wi base p g1 agk L.length (L++[(a,q)]) w1 (Nat.le_trans hb hk1.bel.size) (by omega) (by omega) yg (by rw[hlen];exact Qe L (a,q) Hh.out);have Hup:=hid hup;have Hk1:=hid hk1;have UK:=hid yg;have mN:=ZB p (L.length+1) agk (some ⟨g1,0,none⟩) w1 c1;have eN:=PE;have Hlen:Hid (∀W,Calls prog 168 #[.slice (some ⟨g1,0,none⟩) (L.length+1) agk] W fun e w'=>e=.returned (.int .i64 ((L.length:Int)+1))∧W=w'):=hid (fun W=>by
  have h1:=qI (some ⟨g1,0,none⟩) (L.length+1) agk W;rw[Int.natCast_add]at h1;exact h1)
 clear hup hk1 yg hlen mP eP EC Hh;go_wp2_with fail
 refine(Hlen.out _).mono ?_;rintro e w2 ⟨rfl,rfl⟩;clear mN eN c1 Hlen;go_wp2_with fail
 refine Hup.out.mono ?_;rintro e w2 ⟨rfl,L',hpm,hhp,LA,hk2⟩;have hfin:∃L',L'.Perm ((a,q) :: L)∧ow w2 base p L'∧gY base w w2:=⟨L',hpm.trans (List.perm_append_singleton _ _),⟨hhp,_,_,LA⟩,Hk1.out.trans (hk2.kept UK.out)⟩;have Hf:=hid hfin;clear hfin hpm hhp LA hk2 Hup;go_wp2;go_end0
 exact⟨rfl,Hf.out⟩
def ahm(w w':World)(base p g cap:Nat)(L:List Nod)(a q:Nat):Prop:=∃L',L.Perm ((a,q) :: L')∧(∀y∈L',¬lt2 y (a,q))∧jo L' L'.length∧jq w' base p g cap L'∧cO base p g w w'
def aln(w w':World)(base p:Nat)(L:List Nod)(a q:Nat):Prop:=∃L',L.Perm ((a,q) :: L')∧(∀y∈L',¬lt2 y (a,q))∧ow w' base p L'∧gY base w w'
theorem Xf{w w':World}{base p g cap n:Nat}{L L2:List Nod}(hn:L.length=n+1)(hh:jo L L.length)(hpm:L2.Perm (swp (0,0) L 0 n))(hh2:jo L2 n)(hat:∀k,n≤k→Bm.at2 L2 k=Bm.at2 (swp (0,0) L 0 n) k)(hpl:jq w' base p g cap (L2.take n))(hk:cO base p g w w') :
  L2[n]?.getD (0,0)=Bm.at2 L 0∧ahm w w' base p g cap L (Bm.at2 L 0).1 (Bm.at2 L 0).2:=by
 have ads:=hpm.trans (qB L 0 n (by omega) (by omega));have hl2:L2.length=n+1:=by rw[ads.length_eq,hn]
 have he:Bm.at2 L2 n=Bm.at2 L 0:=by
  rw[hat n (Nat.le_refl _),xu L 0 n n (by omega) (by omega),if_pos rfl]
 have hL2:L2=L2.take n++[Bm.at2 L 0]:=by
  rw[←he];unfold Bm.at2;rw[List.getElem?_eq_getElem (by omega),Option.getD_some,←List.take_succ_eq_append_getElem (by omega),List.take_of_length_le (by omega)]
 have hperm:L.Perm (Bm.at2 L 0 :: L2.take n):=ads.symm.trans (by
  conv=>lhs;rw[hL2]
  exact List.perm_append_singleton _ _)
 refine⟨he,L2.take n,hperm,fun y hy=>?_,?_,hpl,hk⟩
 ·have hy2:y∈L:=hperm.mem_iff.2 (List.mem_cons_of_mem _ hy);obtain⟨k,hk,rfl⟩:=List.mem_iff_getElem.1 hy2;have h1:=Lr L L.length hh k hk;unfold Bm.at2 at h1;rw[List.getElem?_eq_getElem hk,Option.getD_some]at h1;exact h1
 ·rw[List.length_take,Nat.min_eq_left (by omega)];exact Qf L2 n hh2
theorem Qk(base p g cap n:Nat)(L:List Nod)(w:World)(hb:base≤w.heap.size)(hL:L.length≤100000)(hn:L.length=n+1)(hh:jo L L.length)(hpl:jq w base p g cap L) :
  Calls prog 203 #[.iface 220 (.pointer (some ⟨p,0,none⟩))] w fun e w'=>e=.returned (.iface 223 (.agg #[.int .i64 ((Bm.at2 L 0).1:Int),.int .i64 ((Bm.at2 L 0).2:Int)]))∧ahm w w' base p g cap L (Bm.at2 L 0).1 (Bm.at2 L 0).2:=by
 have hn1:n≤100000:=by omega
 have Hh:=hid hh;have c0:=hpl.cell;rw[hn]at c0;have Hsw:=wK hpl 0 n (by omega) (by omega);rw[hn]at Hsw;have Hs:=hid Hsw;have Hlen:Hid (∀W,Calls prog 168 #[.slice (some ⟨g,0,none⟩) (n+1) cap] W fun e w'=>e=.returned (.int .i64 ((n:Int)+1))∧W=w'):=hid (fun W=>by
  have h1:=qI (some ⟨g,0,none⟩) (n+1) cap W;rw[Int.natCast_add]at h1;exact h1)
 have HL:=hid hL;have Hn:=hid hn;have mN:=ZB p (n+1) cap (some ⟨g,0,none⟩) w c0;have eN:=PE;have mS:=wM p (n+1) cap (some ⟨g,0,none⟩) w c0;have eS:=pV;obtain⟨a,ha⟩:∃a,a=(Bm.at2 L 0).1:=⟨_,rfl⟩;obtain⟨q,hq⟩:∃q,q=(Bm.at2 L 0).2:=⟨_,rfl⟩;rw[←ha,←hq];have Ha:=hid ha;have Hq:=hid hq;clear hh hpl Hsw hn hL ha hq c0;go_enter func203,ntmps203
 go_wp2_with fail
 refine(Hlen.out _).mono ?_;rintro e w2 ⟨rfl,rfl⟩;clear mN eN Hlen;go_wp2_with fail
 refine Hs.out.mono ?_;rintro e w1 ⟨rfl,yg,hk1⟩;have hb1:=Nat.le_trans hb hk1.bel.size;have Hdn:=hid (Lx base p g cap n (swp (0,0) L 0 n) w1 hb1 (by rw[nK];exact HL.out) (by rw[nK,Hn.out];omega) yg (Wd L n Hn.out (by have h1:=Hh.out;rw[Hn.out]at h1;exact h1)));have Hk1:=hid hk1;clear yg hk1 mS eS Hs;go_wp2_with fail
 refine Hdn.out.mono ?_;rintro e w2 ⟨hbe,L2,hpm,hh2,hat,LA,hk2⟩;obtain⟨b0,rfl⟩:=hbe;have hl2:L2.length=n+1:=by rw[hpm.length_eq,nK,Hn.out]
 have adh:=hid (Uc base p g cap n L2 w2 (Nat.le_trans hb1 hk2.bel.size) (by have:=HL.out;have:=Hn.out;omega) hl2 LA);have Hk2:=hid (Hk1.out.trans hk2);have Hpm:=hid hpm;have Hh2:=hid hh2;have Hat:=hid hat;clear hpm hh2 hat LA hk2 hl2 Hdn Hk1 hb1;have mP:=afE p w2;have eP:=aaO;go_wp2_with fail
 refine adh.out.mono ?_;rintro e w3 ⟨rfl,Jb,hk3⟩;obtain⟨he,hfin⟩:=Xf Hn.out Hh.out Hpm.out Hh2.out Hat.out Jb (Hk2.out.trans hk3);have Hf:Hid (ahm w w3 base p g cap L a q):=hid (by rw[Ha.out,Hq.out];exact hfin);have Hv:Hid (Value.iface 223 (.agg #[Dv (L2[n]?.getD (0,0)),Du (L2[n]?.getD (0,0))])=.iface 223 (.agg #[.int .i64 (a:Int),.int .i64 (q:Int)])):=hid (by rw[he,Ha.out,Hq.out];rfl);rw[Hv.out];clear he hfin Jb hk3 adh Hv mP eP;go_wp2;go_ret;exact⟨rfl,Hf.out⟩
theorem jq.afx{w w':World}{base p g cap:Nat}{L:List Nod}(h:jq w base p g cap L)(hp:w'.heap[p]?=w.heap[p]?)(hg:w'.heap[g]?=w.heap[g]?):jq w' base p g cap L:=by
 obtain⟨post,h1,hr⟩:=h.row;exact⟨h.abD,h.abC,h.fits,h.most,h.var.keep hp,post,h1,hr.keep hg⟩
theorem QM{w w1 w2:World}{base:Nat}(hk:gY base w w1)(hB:Below w.heap.size w1 w2)(hb:base≤w.heap.size):gY base w w2:=
 ⟨hk.bel.trans (hB.mono hb),fun b t cs h1 h2 hr=>(hk.rows b t cs h1 h2 hr).keep (hB.block b hr.lt)⟩
theorem sF(base p n:Nat)(L:List Nod)(w:World)(hb:base≤w.heap.size)(hL:L.length≤100000)(hn:L.length=n+1)(hp:ow w base p L) :
  Calls prog 169 #[.pointer (some ⟨p,0,none⟩)] w fun e w'=>e=.returned (.agg #[.int .i64 ((Bm.at2 L 0).1:Int),.int .i64 ((Bm.at2 L 0).2:Int)])∧aln w w' base p L (Bm.at2 L 0).1 (Bm.at2 L 0).2:=by
 obtain⟨hh,g,cap,hpl⟩:=hp;have hal:=(Below.refl w.heap.size w).alloc (Nat.le_refl _) (.cells #[.int .i64 0,.int .i64 0] 223);have hp1:=hpl.below hal;have adh:=hid (Qk base p g cap n L _ (Nat.le_trans hb hal.size) hL hn hh hp1);have Hal:=hid hal;have Hb:=hid hb;obtain⟨a,ha⟩:∃a,a=(Bm.at2 L 0).1:=⟨_,rfl⟩;obtain⟨q,hq⟩:∃q,q=(Bm.at2 L 0).2:=⟨_,rfl⟩;rw[←ha,←hq]at adh ⊢;have hta:=fun W=>TH (.agg #[.int .i64 (a:Int),.int .i64 (q:Int)]) W
 have aiH:=hid hpl.var.lt;have aiA:Hid (g<w.heap.size):=hid (by obtain⟨_,_,hr⟩:=hpl.row;exact hr.lt);have akU:=hid hpl;clear hh hpl hal hp1 hL hn ha hq;go_enter func169,ntmps169
 go_wp2_with fail
 refine adh.out.mono ?_;rintro e w1 ⟨rfl,hpp⟩;obtain⟨L',hpm,hle,hhp,yg,hk1⟩:=hpp;have hrow:Row w1 w.heap.size 223 [.int .i64 0,.int .i64 0]:=(Row.new w 223 [.int .i64 0,.int .i64 0]).keep (hk1.blk _ (by simp) (by have:=aiH.out;omega) (by have:=aiA.out;omega));have k0:=hrow.cell 0;have k1:=hrow.cell 1;have f0:=hrow.free 0;have f1:=hrow.free 1;simp only[List.getElem?_cons_zero,List.getElem?_cons_succ]at k0 k1;have hlt:=hrow.lt;have fu:=hid hrow;have lu:Hid (∃L',L.Perm ((a,q) :: L')∧(∀y∈L',¬lt2 y (a,q))∧jo L' L'.length∧jq w1 base p g cap L'∧cO base p g w w1):=hid ⟨L',hpm,hle,hhp,yg,(cO.below Hal.out Hb.out).trans hk1⟩;clear hpm hle hhp yg hk1 hrow adh;go_wp2_with fail
 have hres:Row (((w1.setCell ⟨w.heap.size,0,none⟩ (.int .i64 (a:Int))).setCell ⟨w.heap.size,1,none⟩ (.int .i64 (q:Int))).alloc (.cells #[.int .i64 (a:Int),.int .i64 (q:Int)] 223)) w.heap.size 223 [.int .i64 (a:Int),.int .i64 (q:Int)]:=((fu.out.aW 0 _).aW 1 _).alloc _;refine bodyPost_ret (results_cell_row rfl _ _ w.heap.size 223 #[.int .i64 (a:Int),.int .i64 (q:Int)] (0,0) _ rfl hres underlying223 rfl (by kernel_rfl)) rfl ?_;refine⟨rfl,?_⟩;obtain⟨L',hpm,hle,hhp,yg,hk1⟩:=lu.out;have hB:Below w.heap.size w1 (((w1.setCell ⟨w.heap.size,0,none⟩ (.int .i64 (a:Int))).setCell ⟨w.heap.size,1,none⟩ (.int .i64 (q:Int))).alloc (.cells #[.int .i64 (a:Int),.int .i64 (q:Int)] 223)):=
  (((Below.refl _ _).setCell (by exact Nat.le_refl _) _).setCell (by exact Nat.le_refl _) _).alloc (by simpa [World.setCell]using Nat.le_of_lt hlt) _
 exact⟨L',hpm,hle,⟨hhp,g,cap,yg.afx (hB.block p aiH.out) (hB.block g aiA.out)⟩,QM (hk1.kept akU.out) hB Hb.out⟩
theorem Yt(A:Option Addr)(c:Nat)(cs:List Nat)(w:World)(hl:cs.length≤256)(hr:Reads w A (aM cs)) :
  Calls prog 167 #[.slice A cs.length c] w fun e w'=>∃p L,e=.returned (.pointer (some ⟨p,0,none⟩))∧L.Perm (lvs cs)∧ow w' w.heap.size p L∧Below w.heap.size w w':=by
 have Hr:=hid hr;clear hr;go_enter func167,ntmps167
 go_wp2;go_loopw [10] (fun iv wr=>∃k:Nat,k≤cs.length∧iv=.int .i64 (k:Int)∧Hid (∃L,L.Perm (iM cs k)∧ow wr w.heap.size (w.heap.size+1) L)∧Hid (Below w.heap.size w wr)) (fun iv _=>cs.length-(intOf iv).toNat)
 case atStart=>
  have hb1:=(Below.refl w.heap.size w).alloc (Nat.le_refl _) (.cells #[] 223);have hb2:=hb1.alloc hb1.size (.cells #[.slice (some ⟨w.heap.size,0,none⟩) 0 0] 258);have r1:=(Row.new w 223 []).alloc (.cells #[.slice (some ⟨w.heap.size,0,none⟩) 0 0] 258);have r2:=Row.new (w.alloc (.cells #[] 223)) 258 [.slice (some ⟨w.heap.size,0,none⟩) 0 0];rw[show(w.alloc (.cells #[] 223)).heap.size=w.heap.size+1 by simp]at r2;exact⟨0,by omega,rfl,hid ⟨[],by simp[iM],fun k h0 hk=>by simp at hk,w.heap.size,0,⟨by omega,by omega,by simp,by unfold maxLen;omega,r2,[],rfl,r1⟩⟩,hid hb2⟩
 case round=>
  obtain⟨k,hk,rfl,hpl,hbel⟩:=hrel;by_cases hkl:k<cs.length
  ·obtain⟨g,off,rfl,hc⟩:=fQ (aC Hr.out hbel.out) (by omega);have c0:=hc k hkl;have Hst:=hid (iQ cs k);rw[List.getElem?_eq_getElem hkl,Option.getD_some]at Hst;have hln:=ko cs k;clear hc;generalize cs[k]=x at *;by_cases hx:0<x
   ·rw[if_pos hx]at Hst;have hpush:Calls prog 202 #[.iface 220 (.pointer (some ⟨w.heap.size+1,0,none⟩)),.iface 223 (.agg #[.int .i64 (x:Int),.int .i64 (k:Int)])] wr fun e w'=>e=.returned (.tuple #[])∧Hid (∃L,L.Perm (iM cs (k+1))∧ow w' w.heap.size (w.heap.size+1) L)∧Hid (Below w.heap.size w w'):=by
     obtain⟨L,hpm,hph⟩:=hpl.out;refine(yX w.heap.size (w.heap.size+1) x k L wr hbel.out.size (by rw[hpm.length_eq];omega) hph).mono ?_;rintro e w' ⟨rfl,L',afn,alP,hk'⟩;refine⟨rfl,hid ⟨L',afn.trans ?_,alP⟩,hid (hbel.out.trans hk'.bel)⟩;rw[Hst.out];exact(hpm.cons _).trans (List.perm_append_singleton _ _).symm
    have EC:=hid hpush;clear hpush hpl hbel;go_wp2_with fail
    refine EC.out.mono ?_;rintro e w' ⟨rfl,hpl',VT⟩;go_wp2;go_roundw
    case rel=>exact⟨k+1,by omega,by go_num,hpl',VT⟩
    case measure=>simp[intOf];omega
   ·rw[if_neg hx,List.append_nil]at Hst;go_wp2;go_roundw
    case rel=>exact⟨k+1,by omega,by go_num,by rw[Hst.out];exact hpl,hbel⟩
    case measure=>simp[intOf];omega
  ·obtain rfl:k=cs.length:=by omega
   go_wp2;go_ret;obtain⟨L,hpm,hph⟩:=hpl.out;exact⟨_,L,rfl,hpm,hph,hbel.out⟩
namespace Bm
structure ou(A ls:List Nat)(k:Nat):Prop where
 len:ls.length=A.length
 low:∀i,i<k→bH ls i=0
 none:∀i,k≤i→i<A.length→bH A i=0→bH ls i=0
 some:∀i,k≤i→i<A.length→bH A i≠0→bH ls i=bH ls (bH A i)+1
 most:∀i,i<A.length→bH ls i≤A.length-i
theorem Fa(A:List Nat):ou A (List.replicate A.length 0) A.length where
 len:=by simp
 low:=fun i _=>kT _ _
 none:=fun i _ _ _=>kT _ _
 some:=fun i h1 h2 _=>by omega
 most:=fun i _=>by rw[kT];omega
theorem Pq{A ls:List Nat}(h:ou A ls 0):NP A ls:=⟨h.len,fun i hi=>h.none i (by omega) hi,fun i hi=>h.some i (by omega) hi,h.most⟩
theorem KY{A ls:List Nat}{k:Nat}(h:ou A ls (k+1))(h0:bH A k=0):ou A ls k:=
 ⟨h.len,fun i hi=>h.low i (by omega),fun i h1 h2 h3=>by
  by_cases e:i=k
  ·subst e;exact h.low i (by omega)
  ·exact h.none i (by omega) h2 h3,fun i h1 h2 h3=>by
  by_cases e:i=k
  ·subst e;exact absurd h0 h3
  ·exact h.some i (by omega) h2 h3,h.most⟩
theorem KZ{A ls:List Nat}{k:Nat}(hA:∀i,i<A.length→bH A i≠0→i<bH A i∧bH A i<A.length)(hk:k<A.length)(h:ou A ls (k+1))(h0:bH A k≠0):ou A (ls.set k (bH ls (bH A k)+1)) k:=by
 have hs:∀i,bH (ls.set k (bH ls (bH A k)+1)) i=if i=k then bH ls (bH A k)+1 else bH ls i:=fun i=>by
  unfold bH;rw[List.getElem?_set];by_cases e:k=i
  ·subst e;rw[if_pos rfl,if_pos (by rw[h.len];exact hk),if_pos rfl,Option.getD_some]
  ·rw[if_neg e,if_neg (fun h=>e h.symm)]
 have hAk:=hA k hk h0;refine⟨by rw[List.length_set,h.len],fun i hi=>?_,fun i h1 h2 h3=>?_,fun i h1 h2 h3=>?_,fun i hi=>?_⟩
 ·rw[hs,if_neg (by omega)];exact h.low i (by omega)
 ·rw[hs];by_cases e:i=k
  ·subst e;exact absurd h3 h0
  ·rw[if_neg e];exact h.none i (by omega) h2 h3
 ·have h4:=hA i h2 h3;rw[hs,hs,if_neg (show ¬bH A i=k by omega)];by_cases e:i=k
  ·subst e;rw[if_pos rfl]
  ·rw[if_neg e];exact h.some i (by omega) h2 h3
 ·rw[hs];split
  ·next e=>
   subst e;have:=h.most (bH A i) hAk.2;omega
  ·exact h.most i hi
end Bm
theorem Nh(A:Option Addr)(c:Nat)(bs:List Nat)(w:World)(hl:bs.length≤100000)(hA:∀i,i<bs.length→bH bs i≠0→i<bH bs i∧bH bs i<bs.length)(hr:Reads w A (aM bs)) :
  Calls prog 170 #[.slice A bs.length c] w fun e w'=>∃g ls,e=.returned (.slice (some ⟨g,0,none⟩) bs.length bs.length)∧Row w' g 3 (aM ls)∧NP bs ls∧w.heap.size≤g∧Below w.heap.size w w':=by
 obtain⟨i0,hi,hz0,hz1,hz2⟩:=info_parts gI;have Hr:=hid hr;have HA:=hid hA;clear hr hA;obtain⟨g0,hg0⟩:∃g,g=w.heap.size:=⟨_,rfl⟩;have Hg0:=hid hg0;clear hg0;go_enter func170,ntmps170
 go_wp2_with (at_make;refine wpList_make_full _ rfl _ _ 112 rfl w.heap.size 3 i0 (.int .i64 0) 1 underlying112 hi hz0 hz1 .i64 .i64 _ _ bs.length rfl rfl ?c1 ?c1 ?c2 ?c3 ?c4 ?_)
 case c1=>omega
 case c2=>first | omega | (rw[hz2];omega)
 case c3=>unfold maxLen;omega
 try case c4=>exact Nat.le_refl _
 intro w1 hown1 hg1;have hb1:=aJ hg1;have hr1:=dF hown1;rw[←Hg0.out]at hr1 ⊢;have Hb1:=hid hb1;have Hr1:=hid hr1;have Hd1:=hid (Fa bs);clear hown1 hg1 hb1 hr1 hi hz0 hz1 hz2;go_wp2;go_loopw [4] (fun iv wr=>∃(k:Nat) (ls:List Nat),k≤bs.length∧iv=.int .i64 ((k:Int)-1)∧Hid (ou bs ls k)∧Hid (Row wr g0 3 (aM ls))∧Hid (Below w.heap.size w wr)) (fun iv _=>(intOf iv+1).toNat)
 case atStart=>exact⟨bs.length,_,by omega,by go_num,Hd1,Hr1,Hb1⟩
 case round=>
  obtain⟨k,ls,hk,rfl,hd,hrow,hbel⟩:=hrel;clear Hr1 Hb1 Hd1;by_cases h0:0<k
  ·obtain⟨j,rfl⟩:∃j,k=j+1:=⟨k-1,by omega⟩;have hjl:j<bs.length:=by omega
   obtain⟨g,off,rfl,hc⟩:=fQ (aC Hr.out hbel.out) (by omega);have c0:=hc j hjl;have hgj:bH bs j=bs[j]:=by unfold bH;rw[List.getElem?_eq_getElem hjl,Option.getD_some]
   have Haj:=hid (HA.out j hjl);have Hsk:=hid (KY hd.out);have Hst:=hid (KZ HA.out hjl hd.out);rw[hgj]at Haj Hsk Hst;clear hc;have hll:ls.length=bs.length:=hd.out.len;have afh:=fun(h:bs[j]<bs.length)=>hd.out.most bs[j] h
   have aac:=hid afh;clear afh hgj;generalize bs[j]=x at *;rw[show((j+1:Nat):Int)-1=(j:Int) by omega];by_cases hx:x=0
   ·subst hx;have Hs2:=hid (Hsk.out rfl);clear Hst Haj aac;go_wp2;go_roundw
    case rel=>exact⟨j,ls,by omega,by go_num,Hs2,hrow,hbel⟩
    case measure=>simp[intOf]
   ·obtain⟨a1,a2⟩:=Haj.out hx;have hm:=aac.out a2;have Hs2:=hid (Hst.out hx);have hxl:x<ls.length:=by omega
    have k0:wr.cell? ⟨g0,x,none⟩=some (.int .i64 (bH ls x:Int)):=by
     unfold bH;rw[hrow.out.cell,bK ls x hxl,List.getElem?_eq_getElem hxl,Option.getD_some]
    have k1:wr.cell? ⟨g0,j,none⟩=some (.int .i64 (ls[j]'(by omega):Int)):=by
     rw[hrow.out.cell,bK ls j (by omega)]
    have f1:wr.frozen? ⟨g0,j,none⟩=false:=hrow.out.free j;have hrow2:Row (wr.setCell ⟨g0,j,none⟩ (.int .i64 ((bH ls x:Int)+1))) g0 3 (aM (ls.set j (bH ls x+1))):=by
     have h1:=hrow.out.aW j (.int .i64 ((bH ls x:Int)+1));rw[show aM (ls.set j (bH ls x+1))=(aM ls).set j (.int .i64 ((bH ls x:Int)+1)) by simp[aM,List.map_set]];exact h1
    have dJ:=hid hrow2;have NS:=hid (hbel.out.setCell (p:=⟨g0,j,none⟩) (by rw[Hg0.out];exact Nat.le_refl _) (.int .i64 ((bH ls x:Int)+1)));clear hrow2 Hsk Hst Haj aac hrow hbel;have hx0:0<x:=by omega
    clear hx;generalize bH ls x=y at *;generalize ls[j]'(by omega)=z at k1;go_wp2;go_roundw
    case rel=>exact⟨j,_,by omega,by go_num,Hs2,dJ,NS⟩
    case measure=>simp[intOf]
  ·obtain rfl:k=0:=by omega
   have Hd2:=hid (Pq hd.out);go_wp2;go_ret;exact⟨g0,ls,rfl,hrow.out,Hd2.out,by rw[Hg0.out];exact Nat.le_refl _,hbel.out⟩
def afJ:Value→Nat
 | .slice _ n _=>n
 | _=>0
theorem Seg.kept{w w':World}{base b0 g off cap:Nat}{l:List Nat}(h:Seg w base g off cap l)(hk:gY b0 w w'):Seg w' base g off cap l:=by
 obtain⟨h1,h2,pre,post,h3,h4,h5⟩:=h;exact⟨h1,h2,pre,post,h3,h4,hk.rows _ _ _ (by decide) (by decide) h5⟩
theorem Seg.own{w:World}{base g cap:Nat}{l:List Nat}(h:Seg w base g 0 cap l):w.ownsRow base 3 1 (.slice (some ⟨g,0,none⟩) l.length cap) l.length (aM l):=by
 obtain⟨h1,h2,pre,post,h3,h4,h5⟩:=h;obtain rfl:pre=[]:=List.eq_nil_of_length_eq_zero h3;have hl:=aL l;refine⟨by omega,.inr ⟨g,cap,(aM l++post).toArray,rfl,h1,h5,by omega,h2,?_,?_⟩⟩
 ·rw[List.size_toArray,List.length_append];omega
 ·rw[List.toList_toArray,List.take_left' (by omega)]
theorem Seg.reads{w:World}{base g cap:Nat}{l:List Nat}(h:Seg w base g 0 cap l):Reads w (some ⟨g,0,none⟩) (aM l):=fun _=>
 ⟨g,0,rfl,fun j hj=>by
  rw[aL]at hj;have h1:=h.cell j hj;rw[bK l j hj];exact h1⟩
structure aan(base:Nat)(w wr:World)(p g cap:Nat)(cs A:List Nat)(L:List Nod)(C:Nat):Prop where
 seg:Seg wr base g 0 cap A
 pile:ow wr base p L
 sums:zV cs A L C
 bel:Below base w wr
theorem Fx{cs A:List Nat}{L R:List Nod}{C wa a wb b:Nat}(h:zV cs A L C)(hp:L.Perm ((wa,a) :: (wb,b) :: R))(hm:(je cs).sum≤1000000000):a<A.length∧b<A.length∧wa+wb≤1000000000:=by
 refine⟨(h.free (wa,a) (hp.mem_iff.2 (by simp))).1,(h.free (wb,b) (hp.mem_iff.2 (by simp))).1,?_⟩;have:=h.total;rw[(hp.map _).sum_nat]at this;simp only[List.map_cons,List.sum_cons]at this;omega
theorem Qx{cs A:List Nat}{L:List Nod}{C:Nat}(h:zV cs A L C)(hl:cs.length≤256)(hL:1≤L.length):A.length≤511∧L.length≤256:=by
 have h1:=h.count;have h2:=ko cs cs.length;have h3:=h.len;unfold lvs at h1;omega
theorem ow.far{w w':World}{base p g:Nat}{L:List Nod}{cs:List Value}(h:ow w base p L)(hr:Row w g 3 cs)(hg:w.grownBy w' (some g)):ow w' base p L:=by
 obtain⟨hh,g',cap',hpl⟩:=h;obtain⟨post,hl,hrow⟩:=hpl.row;refine⟨hh,g',cap',hpl.afx (hg.block p hpl.var.lt (fun e=>?_)) (hg.block g' hrow.lt (fun e=>?_))⟩
 ·injection e with e
  subst e;have hv:=hpl.var;unfold Row at hv hr;rw[hr]at hv;injection hv with hv
  injection hv with _ e
  exact absurd e (by decide)
 ·injection e with e
  subst e;unfold Row at hrow hr;rw[hr]at hrow;injection hrow with hrow
  injection hrow with _ e
  exact absurd e (by decide)
theorem Seg.row{w:World}{base g off cap:Nat}{l:List Nat}(h:Seg w base g off cap l):∃cs,Row w g 3 cs∧base≤g:=by
 obtain⟨h1,_,pre,post,_,_,h5⟩:=h;exact⟨_,h5,h1⟩
theorem TY(base p:Nat)(cs:List Nat)(L:List Nod)(w:World)(hb:base≤w.heap.size)(hl:cs.length≤256)(hm:(je cs).sum≤1000000000)(hL:L.Perm (lvs cs))(h2:2≤L.length)(hp:ow w base p L) :
  Calls prog 171 #[.pointer (some ⟨p,0,none⟩),.int .i64 (cs.length:Int)] w fun e w'=>∃g A c t C,e=.returned (.slice (some ⟨g,0,none⟩) A.length c)∧Reads w' (some ⟨g,0,none⟩) (aM A)∧zV cs A [t] C∧A.length≤512∧Below base w w':=by
 obtain⟨i0,hi,hz0,hz1,hz2⟩:=info_parts gI;have hn2:2≤cs.length:=by
  have:=hL.length_eq;have h3:=ko cs cs.length;unfold lvs at this;omega
 have HL:=hid hL;have Hp:=hid hp;clear hL hp;go_enter func171,ntmps171
 go_wp2_with (at_make;refine wpList_make_full _ rfl _ _ 112 rfl w.heap.size 3 i0 (.int .i64 0) 1 underlying112 hi hz0 hz1 .i64 .i64 _ _ cs.length rfl rfl ?c1 ?c1 ?c2 ?c3 ?c4 ?_)
 case c1=>omega
 case c2=>first | omega | (rw[hz2];omega)
 case c3=>unfold maxLen;omega
 try case c4=>exact Nat.le_refl _
 intro w1 hown1 hg1;have hb1:=aJ hg1;have bW:=dF hown1;have hstart:aan base w w1 p w.heap.size cs.length cs (List.replicate cs.length 0) L 0:=by
  obtain⟨hh,g,cap,hpl⟩:=Hp.out;exact⟨⟨hb,by unfold maxLen;omega,[],[],rfl,by simp,by simpa using bW⟩,⟨hh,g,cap,hpl.below hb1⟩,LD cs L HL.out,hb1.mono hb⟩
 have YX:=hid hstart;clear hown1 hg1 hb1 bW hstart;go_wp2;go_loopw [5] (fun av wr=>∃(A:List Nat) (L:List Nod) (C g cap:Nat),av=.slice (some ⟨g,0,none⟩) A.length cap∧1≤L.length∧Hid (aan base w wr p g cap cs A L C)) (fun av _=>600-afJ av)
 case atStart=>exact⟨_,L,0,w.heap.size,cs.length,by simp,by omega,YX⟩
 case round=>
  obtain⟨A,L,C,g,cap,rfl,hL1,hj⟩:=hrel;clear YX Hp HL;obtain⟨hsz,hsz2⟩:=Qx hj.out.sums hl hL1;have hAc:cs.length≤A.length:=hj.out.sums.len;obtain⟨c0,hc0⟩:∃v,wr.cell? ⟨p,0,none⟩=some v∧∃g' cap',v=.slice (some ⟨g',0,none⟩) L.length cap':=by
   obtain⟨hh,g',cap',hpl⟩:=hj.out.pile;exact⟨_,hpl.cell,g',cap',rfl⟩
  obtain⟨hc0,gP,Vl,rfl⟩:=hc0;have Hlen:=hid (fun W=>qI (some ⟨gP,0,none⟩) L.length Vl W);by_cases h1:L.length=1
  ·obtain⟨t,rfl⟩:=List.length_eq_one_iff.1 h1;have hfin:Reads wr (some ⟨g,0,none⟩) (aM A)∧zV cs A [t] C∧Below base w wr:=⟨hj.out.seg.reads,hj.out.sums,hj.out.bel⟩;have Hf:=hid hfin;clear hfin hj hL1 h1;go_wp2_with fail
   refine(Hlen.out _).mono ?_;rintro e w2 ⟨rfl,rfl⟩;go_wp2;go_ret;exact⟨g,A,cap,t,C,rfl,Hf.out.1,Hf.out.2.1,by omega,Hf.out.2.2⟩
  ·obtain⟨n,hn⟩:∃n,L.length=n+1+1:=⟨L.length-2,by omega⟩;have hbr:=Nat.le_trans hb hj.out.bel.size;have Hli:=hid (sF base p (n+1) L wr hbr (by omega) hn hj.out.pile);obtain⟨wa,hwa⟩:∃x,x=(Bm.at2 L 0).1:=⟨_,rfl⟩;obtain⟨a,ha⟩:∃x,x=(Bm.at2 L 0).2:=⟨_,rfl⟩;rw[←hwa,←ha]at Hli;clear hwa ha;have adY:Hid (∀W,Calls prog 168 #[.slice (some ⟨gP,0,none⟩) (n+1+1) Vl] W fun e w'=>e=.returned (.int .i64 ((n:Int)+1+1))∧W=w'):=hid (fun W=>by
    have h5:=Hlen.out W;rw[hn]at h5;exact h5)
   rw[hn]at hc0 hsz2;have Hn:Hid (L.length=n+1+1):=hid hn;clear hn h1 hL1 Hlen;go_wp2_with fail
   refine(adY.out _).mono ?_;rintro e w2 ⟨rfl,rfl⟩;clear adY hc0;go_wp2_with fail
   refine Hli.out.mono ?_;rintro e w1 ⟨rfl,L1,ahF,hle1,ajM,hk1⟩;have hn1:L1.length=n+1:=by have:=ahF.length_eq;rw[Hn.out,List.length_cons]at this;omega
   have agN:=hid (sF base p n L1 w1 (Nat.le_trans hbr hk1.bel.size) (by omega) hn1 ajM);have afg:Bm.at2 L1 0∈L1:=by
    unfold Bm.at2;rw[List.getElem?_eq_getElem (by omega),Option.getD_some];exact List.getElem_mem _
   have ahu:=hle1 _ afg;have akO:=hid hle1;have aiI:=hid ahF;have Hk1:=hid hk1;obtain⟨wb,hwb⟩:∃x,x=(Bm.at2 L1 0).1:=⟨_,rfl⟩;obtain⟨b,hb'⟩:∃x,x=(Bm.at2 L1 0).2:=⟨_,rfl⟩;have hab:wa≤wb:=by
    rw[fC,←hwb]at ahu;simp only at ahu;omega
   rw[←hwb,←hb']at agN;clear hle1 ahF hk1 ajM afg ahu hwb hb' Hli;go_wp2_with fail
   refine agN.out.mono ?_;rintro e w2 ⟨rfl,R,ads,hle2,afm,hk2⟩;have Hpm:Hid (L.Perm ((wa,a) :: (wb,b) :: R)):=hid (aiI.out.trans (ads.cons _));have akP:Hid (∀y∈R,wb≤y.1):=hid (fun y hy=>by
    have:=hle2 y hy;rw[fC]at this;simp only at this;omega)
   have Hk2:=hid (Hk1.out.trans hk2);have aiG:=hid afm;obtain⟨ba,bb,bw⟩:=Fx hj.out.sums Hpm.out hm;have HR:Hid (R.length=n):=hid (by have:=ads.length_eq;rw[hn1,List.length_cons]at this;omega);clear ads hle2 afm hk2 agN akO aiI Hk1 hn1;have aft:=hj.out.seg.kept Hk2.out;have aah:=hid aft;have hbw2:base≤w2.heap.size:=Nat.le_trans hbr Hk2.out.bel.size;clear aft;go_wp2_with fail
   obtain⟨w3,hw3⟩:∃w3,w3=(w2.alloc (.cells #[.int .i64 (wa:Int),.int .i64 (a:Int)] 223)).alloc (.cells #[.int .i64 (wb:Int),.int .i64 (b:Int)] 223):=⟨_,rfl⟩;have hb3:Below w2.heap.size w2 w3:=by
    rw[hw3];exact((Below.refl _ _).alloc (Nat.le_refl _) _).alloc (by simp) _
   have hr6:Row w3 w2.heap.size 223 [.int .i64 (wa:Int),.int .i64 (a:Int)]:=by
    rw[hw3];exact(Row.new w2 223 [.int .i64 (wa:Int),.int .i64 (a:Int)]).alloc _
   have hr7:Row w3 (w2.heap.size+1) 223 [.int .i64 (wb:Int),.int .i64 (b:Int)]:=by
    have h5:=Row.new (w2.alloc (.cells #[.int .i64 (wa:Int),.int .i64 (a:Int)] 223)) 223 [.int .i64 (wb:Int),.int .i64 (b:Int)];rw[show(w2.alloc (.cells #[.int .i64 (wa:Int),.int .i64 (a:Int)] 223)).heap.size=w2.heap.size+1 by simp,←hw3]at h5;exact h5
   have Fu:=aah.out.below hb3;have ajN:ow w3 base p R:=by
    obtain⟨hh,g',cap',hpl⟩:=aiG.out;exact⟨hh,g',cap',hpl.below hb3⟩
   have Hk3:=hid (Hk2.out.trans (gY.below hb3 hbw2));rw[←hw3];have hgl:g<w2.heap.size:=aah.out.lt;generalize w2.heap.size=q6 at *;have e0:=hr6.cell 0;have e1:=hr6.cell 1;have e2:=hr7.cell 0;have e3:=hr7.cell 1;simp only[List.getElem?_cons_zero,List.getElem?_cons_succ]at e0 e1 e2 e3;have k0:=Fu.cell a ba;have k1:=Fu.cell b bb;rw[Nat.zero_add]at k0 k1;have f0:=Fu.free a;have f1:=Fu.free b;obtain⟨v1,hy1⟩:=cell?_setCell_some (w:=w3) (p:=⟨g,a,none⟩) (x:=.int .i64 (A.length:Int)) (q:=⟨g,b,none⟩) k1;have abt:=(Fu.set a ba A.length).set b (by simpa using bb) A.length;rw[Nat.zero_add,Nat.zero_add]at abt;obtain⟨w4,hw4⟩:∃w4,w4=((w3.setCell ⟨g,a,none⟩ (.int .i64 (A.length:Int))).setCell ⟨g,b,none⟩ (.int .i64 (A.length:Int))).drew:=⟨_,rfl⟩;have hg4:w3.grownBy w4 (some g):=by
    rw[hw4];exact bA (aH (aH (au w3 (some g)) _ _) _ _)
   have Zq:Seg w4 base g 0 cap ((A.set a A.length).set b A.length):=by rw[hw4];exact abt
   have aej:=hid Zq;have Hg4:=hid hg4;have Hr6:=hid hr6;have Hr7:=hid hr7;have akT:=hid ajN;have agV:=hid Fu;have Hw4:=hid hw4;clear hw3 hb3 hr6 hr7 Fu ajN abt Zq hg4 hw4 aah aiG Hk2;go_region
   all_goals rw[show((w3.setCell ⟨g,a,none⟩ (.int .i64 (A.length:Int))).setCell ⟨g,b,none⟩ (.int .i64 (A.length:Int))).drew=w4 from Hw4.out.symm]
   all_goals clear Hw4 e0 e1 e2 e3 k0 k1 f0 f1 hy1
   have vL:w4.ownsRow base 3 1 (.slice (some ⟨g,0,none⟩) A.length cap) A.length (aM ((A.set a A.length).set b A.length)):=by
    have h5:=aej.out.own;rw[List.length_set,List.length_set]at h5;exact h5
   have BR:=hid vL;have hb4:base≤w4.heap.size:=Nat.le_trans hbr (Nat.le_trans Hk3.out.bel.size Hg4.out.size);clear vL;go_wp2_with (at_builtin;refine wpList_append_own _ rfl _ _ 112 rfl base 3 i0 (.int .i64 0) 1 8 underlying112 hi hz0 hz1 hz2 rfl (by decide) _ _ _ rfl (BR.out.alloc _) ⟨w4.heap.size,0,none⟩ 1 1 [.int .i64 0] rfl rfl ?d1 ?d2 ?d3 ?d4 ?d5 ?_)
   case d1=>
    intro j u hj;match j,hj with
    | 0,hj=>simp at hj;subst hj;simp[Addr.add]
   case d2=>intro u hu;simp at hu;subst hu;rfl
   case d3=>unfold maxLen;omega
   case d4=>omega
   case d5=>simp;omega
   intro u' w7 bN gH _;obtain⟨_,gN,oF,rfl,afu⟩:=ML (l:=(A.set a A.length).set b A.length++[0]) (by rw[←oK];exact bN) (by omega);have hga:w4.grownBy (w4.alloc (.cells #[.int .i64 0] 3)) (some g):=aD (au _ _) _;have ajB:w3.grownBy w7 (some g):=(Hg4.out.trans hga).trans gH;have adV:=hid ajB;have agW:=hid afu;clear bN gH hga ajB afu BR aej Hg4;obtain⟨ics,afs,hbg⟩:=agV.out.row;have ajO:=akT.out.far afs adV.out;have hr6:Row w7 q6 223 [.int .i64 (wa:Int),.int .i64 (a:Int)]:=Hr6.out.keep (adV.out.block _ Hr6.out.lt (fun e=>by injection e with e;omega));have hr7:Row w7 (q6+1) 223 [.int .i64 (wb:Int),.int .i64 (b:Int)]:=Hr7.out.keep (adV.out.block _ Hr7.out.lt (fun e=>by injection e with e;omega));have e0:=hr6.cell 0;have e1:=hr7.cell 0;simp only[List.getElem?_cons_zero]at e0 e1;have hb7:base≤w7.heap.size:=Nat.le_trans hbr (Nat.le_trans Hk3.out.bel.size adV.out.size);have hpush:=yX base p (wa+wb) A.length R w7 hb7 (by rw[HR.out];omega) ajO;rw[Int.natCast_add]at hpush;have EC:=hid hpush;have NT:=hid ((hj.out.bel.trans Hk3.out.bel).trans (below_grown adV.out hbg (Nat.le_trans hbr Hk3.out.bel.size)));clear afs ajO hr6 hr7 hpush hbg hb4;go_wp2_with fail
   refine EC.out.mono ?_;rintro e w8 ⟨rfl,L',afn,ajP,hk8⟩;have hfin:aan base w w8 p gN oF cs ((A.set a A.length).set b A.length++[0]) L' (C+(wa+wb)):=
    ⟨agW.out.kept hk8,ajP,Bm.join_step hj.out.sums Hpm.out hab akP.out (by omega) afn,NT.out.trans hk8.bel⟩
   have lu:=hid hfin;have alv:1≤L'.length:=by rw[afn.length_eq,List.length_cons];omega
   clear hfin afn ajP hk8 EC e0 e1;go_wp2;go_roundw
   case rel=>exact⟨_,L',_,gN,oF,by simp,alv,lu⟩
   case measure=>simp[afJ];omega
namespace Bm
theorem Gl(cs:List Nat)(M:Nat)(h:∀x∈cs,x≤M):(je cs).sum≤M*cs.length:=by
 have h1:(je cs).sum≤M*(je cs).length:=by
  have:∀L:List Nat,(∀x∈L,x≤M)→L.sum≤M*L.length:=fun L=>by
   induction L with
   | nil=>simp
   | cons a L ih=>
    intro hL;have:=ih (fun x hx=>hL x (by simp[hx]));have:=hL a (by simp);rw[List.sum_cons,List.length_cons,Nat.mul_succ];omega
  exact this _ (fun x hx=>h x (Xg cs x hx).1)
 exact Nat.le_trans h1 (Nat.mul_le_mul_left M (RH cs))
theorem AB(cs:List Nat)(h:∃x∈cs,0<x):1≤(lvs cs).length:=by
 have:=RI cs h;rw[←mJ,List.length_map]at this;exact this
end Bm
theorem Lc(x y:Value)(W:World):(Instr.field 223 (.agg #[x,y]) 1).run prog W=.ok y W:=by kernel_rfl
theorem Yz(A:Option Addr)(c:Nat)(cs:List Nat)(w:World)(hl:cs.length≤256)(hm:∀x∈cs,x≤1048576)(hs:∃x∈cs,0<x)(hr:Reads w A (aM cs)) :
  Calls prog 137 #[.slice A cs.length c] w fun e w'=>∃g ls,e=.returned (.slice (some ⟨g,0,none⟩) cs.length cs.length)∧Reads w' (some ⟨g,0,none⟩) (aM ls)∧aar cs ls∧Below w.heap.size w w':=by
 obtain⟨i0,hi,hz0,hz1,hz2⟩:=info_parts gI;have Hlv:=hid (Yt A c cs w hl hr);have hsum:(je cs).sum≤1000000000:=by
  have:=Gl cs 1048576 hm;omega
 have h1:=AB cs hs;have h1l:(lvs cs).length≤256:=Nat.le_trans (ko cs cs.length) hl;clear hr hm hs;go_enter func137,ntmps137
 go_wp2_with fail
 refine Hlv.out.mono ?_;rintro e w1 ⟨p,L,rfl,hpm,hph,hb1⟩;have hLl:L.length=(lvs cs).length:=hpm.length_eq;obtain⟨v0,hc0,gP,Vl,hv0⟩:∃v,w1.cell? ⟨p,0,none⟩=some v∧∃g' cap',v=.slice (some ⟨g',0,none⟩) L.length cap':=by
  obtain⟨hh,g',cap',hpl⟩:=hph;exact⟨_,hpl.cell,g',cap',rfl⟩
 subst hv0;have Hlen:=hid (fun W=>qI (some ⟨gP,0,none⟩) L.length Vl W);have Hb1:=hid hb1;have Hpm:=hid hpm;have Hph:=hid hph;have hs1:=hb1.size;clear hb1 hpm hph Hlv;by_cases hone:L.length=1
 ·obtain⟨t,rfl⟩:=List.length_eq_one_iff.1 hone;obtain⟨cc,ii⟩:=t;have hlv:lvs cs=[(cc,ii)]:=List.perm_singleton.1 Hpm.out.symm;have Hun:=hid (Ua hlv hl);have hii:ii<cs.length:=((bX cs cs.length (cc,ii)).1 (show(cc,ii)∈lvs cs by rw[hlv];simp)).1;clear hone hlv hLl;simp only[List.length_cons,List.length_nil]at hc0 Hlen;go_wp2_with fail
  refine(Hlen.out _).mono ?_;rintro e w2 ⟨rfl,rfl⟩;clear Hlen hc0;go_wp2_with (at_make;refine wpList_make_full _ rfl _ _ 112 rfl w1.heap.size 3 i0 (.int .i64 0) 1 underlying112 hi hz0 hz1 .i64 .i64 _ _ cs.length rfl rfl ?c1 ?c1 ?c2 ?c3 ?c4 ?_)
  case c1=>omega
  case c2=>first | omega | (rw[hz2];omega)
  case c3=>unfold maxLen;omega
  try case c4=>exact Nat.le_refl _
  intro w2 hown1 hg1;have hb2:=aJ hg1;have hrow2:=dF hown1;have hs2:w1.heap.size<w2.heap.size:=hrow2.lt;have afm:ow w2 w.heap.size p [(cc,ii)]:=by
   obtain⟨hh,g',cap',hpl⟩:=Hph.out;exact⟨hh,g',cap',hpl.below hb2⟩
  have Hli:=hid (sF w.heap.size p 0 [(cc,ii)] w2 (by omega) (by simp) rfl afm);have Hb2:=hid (Hb1.out.trans (hb2.mono hs1));have dJ:=hid hrow2;clear hown1 hg1 hb2 hrow2 afm;go_wp2_with fail
  refine Hli.out.mono ?_;rintro e w3 ⟨rfl,L',_,_,_,hk3⟩;have hrow3:=hk3.rows _ _ _ (by decide) (by decide) dJ.out;have hcell:w3.cell? ⟨w1.heap.size,ii,none⟩=some (.int .i64 0):=by
   rw[hrow3.cell,bK _ _ (by simpa using hii)];simp
  have hfree:w3.frozen? ⟨w1.heap.size,ii,none⟩=false:=hrow3.free ii;have hrow4:Row (w3.setCell ⟨w1.heap.size,ii,none⟩ (.int .i64 1)) w1.heap.size 3 (aM ((List.replicate cs.length 0).set ii 1)):=by
   have h5:=hrow3.aW ii (.int .i64 1);rw[show aM ((List.replicate cs.length 0).set ii 1)=(aM (List.replicate cs.length 0)).set ii (.int .i64 1) by simp only[aM,List.map_set];rfl];exact h5
  have BU:=hid hrow4;have Hb4:=hid ((Hb2.out.trans hk3.bel).setCell (p:=⟨w1.heap.size,ii,none⟩) (by exact hs1) (.int .i64 1));have hat:Bm.at2 [(cc,ii)] 0=(cc,ii):=rfl;rw[hat];clear hrow3 hrow4 hk3 Hli dJ hat;have amA:=fun W=>Lc (.int .i64 (cc:Int)) (.int .i64 (ii:Int)) W
  go_wp2;go_ret;refine⟨w1.heap.size,_,rfl,?_,Hun.out,Hb4.out⟩;intro _;exact⟨w1.heap.size,0,rfl,fun j hj=>by rw[Nat.zero_add];exact BU.out.cell j⟩
 ·have h2:2≤L.length:=by omega
  have Hjo:=hid (TY w.heap.size p cs L w1 hs1 hl hsum Hpm.out h2 Hph.out);have h2l:2≤(lvs cs).length:=by omega
  have hne:((L.length:Int) == 1)=false:=by rw[beq_eq_false_iff_ne];omega
  clear hLl;go_wp2_with fail
  refine(Hlen.out _).mono ?_;rintro e w2 ⟨rfl,rfl⟩;clear Hlen hc0;go_wp2_with fail
  refine Hjo.out.mono ?_;rintro e w2 ⟨g,bs,cap,t,C,rfl,hrd,hjn,hbs,hb2⟩;have hlA:=hjn.len;have Hde:=hid (Nh (some ⟨g,0,none⟩) cap bs w2 (by omega) hjn.above hrd);have Hjn:=hid hjn;have Hb2:=hid (Hb1.out.trans hb2);clear hrd hjn hb2 Hjo;go_wp2_with fail
  refine Hde.out.mono ?_;rintro e w3 ⟨g3,ls,rfl,hrow3,hdn,hg3,hb3⟩;have Hun:=hid (Wo Hjn.out hdn h2l hl hbs);have hll:=hdn.len;have Qm:Reads w3 (some ⟨g3,0,none⟩) (aM (ls.take cs.length)):=fun _=>⟨g3,0,rfl,fun j hj=>by
   rw[aL,List.length_take]at hj;rw[Nat.zero_add,hrow3.cell,bK ls j (by omega),bK (ls.take cs.length) j (by rw[List.length_take];exact hj),List.getElem_take]⟩
  have akY:=hid Qm;have Hb3:=hid (Hb2.out.trans (hb3.mono Hb2.out.size));clear hrow3 hdn hb3 Qm hll Hde;go_wp2;go_ret;exact⟨g3,_,rfl,akY.out,Hun.out,Hb3.out⟩
theorem acX(A:Option Addr)(c:Nat)(l:List Int)(w:World)(hl:l.length≤maxLen)(hr:Reads w A (lQ l))(hR:¬Bm.Right l) :
  Calls prog 106 #[.slice A l.length c] w fun e w'=>e=.returned (.tuple #[.slice none 0 0,.bool false])∧w=w':=by
 have hri:=Jy A c l w hl hr;rw[show lG l=false from decide_eq_false hR]at hri;have Hri:=hid hri;clear hri hR hr;go_enter func106,ntmps106
 go_wp2_with fail
 refine Hri.out.mono ?_;rintro e w' ⟨rfl,rfl⟩;go_wp2;go_ret2;exact⟨rfl,rfl⟩
def BX(w w':World)(cs:List Nat)(v:Value):Prop:=∃B d ls,v=.slice B cs.length d∧cs.length≤d∧Reads w' B (aM ls)∧zT cs ls∧Below w.heap.size w w'
theorem Yu{cs ls:List Nat}(h:aar cs ls)(h11:∀x∈ls,x≤11):zT cs ls:=⟨h.len,h.whole h11,h.just,by rw[h.cost];exact Nat.le_max_right _ _⟩
theorem Yr(A:Option Addr)(c:Nat)(cs:List Nat)(w:World)(hl:cs.length≤256)(hm:∀x∈cs,x≤1048576)(hs:∃x∈cs,0<x)(hr:Reads w A (aM cs))(hri:Calls prog 136 #[.slice A cs.length c] w fun e w'=>e=.returned (.bool true)∧w=w')
  (hB:∀ls,aar cs ls→(∀x∈ls,x≤11)∨(∀W,Below w.heap.size w W→Calls prog 139 #[.slice A cs.length c] W fun e w'=>∃v,e=.returned v∧BX W w' cs v)) :
  Calls prog 106 #[.slice A cs.length c] w fun e w'=>∃v,e=.returned (.tuple #[v,.bool true])∧BX w w' cs v:=by
 have Hri:=hid hri;have Hun:=hid (Yz A c cs w hl hm hs hr);have HB:=hid hB;clear hri hm hs hr hB;go_enter func106,ntmps106
 go_wp2_with fail
 refine Hri.out.mono ?_;rintro e w' ⟨rfl,rfl⟩;clear Hri;go_wp2_with fail
 refine Hun.out.mono ?_;rintro e w1 ⟨g,ls,rfl,hrd,hun,hb⟩;have hll:=hun.len;have hmay:=BF (some ⟨g,0,none⟩) cs.length (ls.map fun n:Nat=>(n:Int)) w1 (by rw[List.length_map];omega) (by rw[bJ];exact hrd);rw[List.length_map,hll]at hmay;have hiff:Oc (ls.map fun n:Nat=>(n:Int))↔∀x∈ls,x≤11:=by
  unfold Oc;constructor
  ·intro h x hx;have:=h.2 (x:Int) (List.mem_map.2 ⟨x,hx,rfl⟩);omega
  ·intro h;refine⟨by rw[List.length_map];omega,fun z hz=>?_⟩;obtain⟨x,hx,rfl⟩:=List.mem_map.1 hz;have:=h x hx;omega
 by_cases h11:∀x∈ls,x≤11
 ·rw[decide_eq_true (hiff.2 h11)]at hmay;have aea:=hid hmay;have hfin:BX w w1 cs (.slice (some ⟨g,0,none⟩) cs.length cs.length):=⟨_,_,ls,rfl,Nat.le_refl _,hrd,Yu hun h11,hb⟩;have Hf:=hid hfin;clear hmay hiff h11 hrd hun hb hll Hun HB hfin;go_wp2_with fail
  refine aea.out.mono ?_;rintro e w' ⟨rfl,rfl⟩;clear aea;go_wp2;go_ret2;exact⟨_,rfl,Hf.out⟩
 ·rw[decide_eq_false (fun h=>h11 (hiff.1 h))]at hmay;have aea:=hid hmay;have Hbn:=hid ((HB.out ls hun).resolve_left h11 w1 hb);have Hb:=hid hb;clear hmay hiff h11 hrd hun hb hll Hun HB;go_wp2_with fail
  refine aea.out.mono ?_;rintro e w' ⟨rfl,rfl⟩;clear aea;go_wp2_with fail
  refine Hbn.out.mono ?_;rintro e w2 ⟨v,rfl,hlp⟩;have hfin:BX w w2 cs v:=by
   obtain⟨B,d,ls',h1,h2,h3,h4,h5⟩:=hlp;exact⟨B,d,ls',h1,h2,h3,h4,Hb.out.trans (h5.mono Hb.out.size)⟩
  have Hf:=hid hfin;clear hfin hlp Hbn;go_wp2;go_ret2;exact⟨_,rfl,Hf.out⟩
theorem Yp(D:List Nat→Prop)(A:Option Addr)(c:Nat)(l:List Int)(w:World)(hl:l.length≤maxLen)(hr:Reads w A (lQ l))(hR:Bm.Right l)(hD:D (l.map Int.toNat))
  (hB:∀(cs ls:List Nat) (W:World),D cs→cs.length≤256→(∀x∈cs,x≤1048576)→(∃x∈cs,0<x)→Reads W A (aM cs)→aar cs ls→(∀x∈ls,x≤11)∨(Calls prog 139 #[.slice A cs.length c] W fun e w'=>∃v,e=.returned v∧BX W w' cs v)) :
  Calls prog 106 #[.slice A l.length c] w fun e w'=>∃v,e=.returned (.tuple #[v,.bool true])∧BX w w' (l.map Int.toNat) v:=by
 have hri:=Jy A c l w hl hr;rw[show lG l=true from decide_eq_true hR]at hri;obtain⟨e1,k1,n1⟩:=Sy l hR;have aaW:=hR.1;have hex:∃x∈l.map Int.toNat,0<x:=by
  obtain⟨x,hx,h0⟩:=hR.2.2;exact⟨x.toNat,List.mem_map.2 ⟨x,hx,rfl⟩,by omega⟩
 have hr2:Reads w A (aM (l.map Int.toNat)):=by rw[←bJ,←e1];exact hr
 have h:=Yr A c (l.map Int.toNat) w (by omega) k1 hex hr2 (by rw[n1];exact hri) (fun ls hu=>by
  by_cases h11:∀x∈ls,x≤11
  ·exact .inl h11
  ·exact .inr (fun W hW=>((hB (l.map Int.toNat) ls W hD (by omega) k1 hex (aC hr2 hW) hu).resolve_left h11)))
 rw[n1]at h;exact h
structure xV(w:World)(base:Nat)(vs:List Value)(L:Nat→List Nat):Prop where
 own:∀(s:Nat) (v:Value),vs[s]?=some v→w.ownsRow base 5 1 v (L s).length (u8s (L s))
 apart:∀(s t:Nat) (v u:Value) (g:Nat),s≠t→vs[s]?=some v→vs[t]?=some u→v.ownBlock=some g→u.ownBlock≠some g
section
variable {w w':World} {base:Nat} {vs:List Value} {L L':Nat→List Nat}
theorem xV.ahU(w:World)(base n:Nat)(hL:∀s,L s=[]):xV w base (List.replicate n (.slice none 0 0)) L where
 own:=fun s v hv=>by
  rw[List.getElem?_replicate]at hv;split at hv
  ·injection hv with hv
   subst hv;rw[hL s];exact World.ownsRow_nil _ _ _ _
  ·cases hv
 apart:=fun s t v u g _ hv _ hg=>by
  rw[List.getElem?_replicate]at hv;split at hv
  ·injection hv with hv
   subst hv;simp[Value.ownBlock]at hg
  ·cases hv
theorem xV.below(h:xV w base vs L)(hb:Below w.heap.size w w'):xV w' base vs L:=⟨fun s v hv=>own_below (h.own s v hv) hb,h.apart⟩
theorem xV.Jw(h:xV w base vs L){b:Nat}{t:TypeId}{cs:List Value}(hr:Row w b t cs)(hne:t≠5):∀(s:Nat) (v:Value),vs[s]?=some v→v.ownBlock≠some b:=by
 intro s v hv hb;obtain⟨c,fz,hk⟩:=Lib.ownsRow_kind (h.own s v hv) b hb;unfold Row at hr;rw[hr]at hk;injection hk with hk
 injection hk with _ hk
 exact hne hk
theorem xV.far(h:xV w base vs L){p:Addr}(hp:∀(s:Nat) (v:Value),vs[s]?=some v→v.ownBlock≠some p.block)(u:Value):xV (w.setCell p u) base vs L:=⟨fun s v hv=>ownsRow_setCell_other (h.own s v hv) (hp s v hv) u,h.apart⟩
theorem xV.push(h:xV w base vs L){s:Nat}{v:Value}(hv:vs[s]?=some v){g n cap:Nat}(hg:w.grownBy w' v.ownBlock)(hat:v.ownBlock=some g∨g=w.heap.size)
  (hown:w'.ownsRow base 5 1 (.slice (some ⟨g,0,none⟩) n cap) n (u8s (L' s))) (hn:(L' s).length=n) (hL:∀t,t≠s→L' t=L t):xV w' base (vs.set s (.slice (some ⟨g,0,none⟩) n cap)) L' where
 own:=fun t u hu=>by
  by_cases e:s=t
  ·subst e;have hl:s<vs.length:=(List.getElem?_eq_some_iff.1 hv).1;rw[List.getElem?_set_self hl]at hu;injection hu with hu
   subst hu;rw[hn];exact hown
  ·rw[List.getElem?_set_ne e]at hu;rw[hL t (Ne.symm e)];refine(h.own t u hu).kept hg ?_;rcases hq:u.ownBlock with _ | q
   ·exact .inl rfl
   ·exact .inr (fun hh=>h.apart t s u v q (Ne.symm e) hu hv hq hh.symm)
 apart:=fun a b x y q hab hx hy hq=>by
  have hl:s<vs.length:=(List.getElem?_eq_some_iff.1 hv).1;have key:∀t u,t≠s→vs[t]?=some u→u.ownBlock≠some g:=fun t u ht hu he=>by
   rcases hat with h1 | h1
   ·exact h.apart t s u v g ht hu hv he h1
   ·have:=((h.own t u hu).lt g he).2;omega
  by_cases ea:s=a
  ·subst ea;rw[List.getElem?_set_self hl]at hx;rw[List.getElem?_set_ne hab]at hy;injection hx with hx
   subst hx;simp only[Value.ownBlock,Option.some.injEq]at hq;subst hq;exact key b y (Ne.symm hab) hy
  ·rw[List.getElem?_set_ne ea]at hx;by_cases eb:s=b
   ·subst eb;rw[List.getElem?_set_self hl]at hy;injection hy with hy
    subst hy;intro he;simp only[Value.ownBlock,Option.some.injEq]at he;subst he;exact key a x (Ne.symm ea) hx hq
   ·rw[List.getElem?_set_ne eb]at hy;exact h.apart a b x y q hab hx hy hq
end
end Go.Proofs.YtgiicohbigiapaaGreat
