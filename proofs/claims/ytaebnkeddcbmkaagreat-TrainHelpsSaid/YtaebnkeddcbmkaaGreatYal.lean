/- Contracts, and what they rest on. Conditions: the theorems' premises. -/
import Derived.Test.YtaebnkeddcbmkaaGreatYak
import Derived.Deep.RegionHeld3
import Derived.Deep.DrawnRows
set_option maxHeartbeats 4000000
set_option maxRecDepth 100000
open Go.Lib(hid)
open Go.Proofs.Tryz Go.Proofs.YtaebnkeddcbmkaaGreat.Bm
namespace Go.Proofs.YtaebnkeddcbmkaaGreat
open Go.RowKit
def cc3{α:Type}(f h k:α->Value):List α->List Value
 | []=>[]
 | x :: l=>f x :: h x :: k x :: cc3 f h k l
section
variable {α:Type} {f h k:α->Value}
theorem iV(l:List α):(cc3 f h k l).length=l.length*3:=by
 induction l with
 | nil=>rfl
 | cons x l ih=>rw[cc3,List.length_cons,List.length_cons,List.length_cons,ih,List.length_cons];omega
theorem Ns(l m:List α):cc3 f h k (l++m)=cc3 f h k l++cc3 f h k m:=by
 induction l with
 | nil=>rfl
 | cons x l ih=>rw[List.cons_append,cc3,ih,cc3];rfl
theorem ael(l:List α)(i:Nat)(hi:i<l.length):(cc3 f h k l)[i*3]?=some (f l[i])/\(cc3 f h k l)[i*3+1]?=some (h l[i])/\(cc3 f h k l)[i*3+2]?=some (k l[i]):=by
 induction l generalizing i with
 | nil=>simp at hi
 | cons x l ih=>
  cases i with
  | zero=>exact⟨rfl,rfl,rfl⟩
  | succ i=>
   have h1:=ih i (by simpa using hi);rw[cc3,show(i+1)*3=i*3+1+1+1 by omega];exact h1
theorem aem(l:List α)(i:Nat)(x:α)(hi:i<l.length):(((cc3 f h k l).set (i*3) (f x)).set (i*3+1) (h x)).set (i*3+2) (k x)=cc3 f h k (l.set i x):=by
 induction l generalizing i with
 | nil=>simp at hi
 | cons y l ih=>
  cases i with
  | zero=>rfl
  | succ i=>
   have h1:=ih i (by simpa using hi);rw[cc3,show(i+1)*3=i*3+1+1+1 by omega];simp only[List.set_cons_succ];rw[h1];rfl
theorem YF(l:List α)(n:Nat):cc3 f h k (l.take n)=(cc3 f h k l).take (n*3):=by
 induction l generalizing n with
 | nil=>simp[cc3]
 | cons x l ih=>
  cases n with
  | zero=>simp[cc3]
  | succ n=>
   rw[List.take_succ_cons,cc3,ih,cc3,show(n+1)*3=n*3+1+1+1 by omega,List.take_succ_cons,List.take_succ_cons,List.take_succ_cons]
end
def swq{α:Type}(d:α)(l:List α)(i j:Nat):List α:=(l.set i (l[j]?.getD d)).set j (l[i]?.getD d)
theorem oq{α:Type}(d:α)(l:List α)(i j:Nat):(swq d l i j).length=l.length:=by simp[swq]
section
variable {α:Type} {f h k:α->Value} {w w':World} {g:Nat} {t:TypeId} {post:List Value}
theorem nA{l:List α}(hr:Row w g t (cc3 f h k l++post))(i:Nat)(hi:i<l.length):w.cell? ⟨g,i*3,none⟩=some (f l[i])/\w.cell? ⟨g,i*3+1,none⟩=some (h l[i])/\w.cell? ⟨g,i*3+2,none⟩=some (k l[i]):=by
 obtain⟨h1,h2,h3⟩:=ael (f:=f) (h:=h) (k:=k) l i hi;have hl:=iV (f:=f) (h:=h) (k:=k) l;rw[hr.cell,hr.cell,hr.cell,List.getElem?_append_left (by omega),List.getElem?_append_left (by omega),List.getElem?_append_left (by omega)];exact⟨h1,h2,h3⟩
theorem Mr{l:List α}(hr:Row w g t (cc3 f h k l++post))(i:Nat)(hi:i<l.length)(x:α):Row (((w.setCell ⟨g,i*3,none⟩ (f x)).setCell ⟨g,i*3+1,none⟩ (h x)).setCell ⟨g,i*3+2,none⟩ (k x)) g t (cc3 f h k (l.set i x)++post):=by
 have hl:=iV (f:=f) (h:=h) (k:=k) l;have h1:=((hr.aT (i*3) (f x)).aT (i*3+1) (h x)).aT (i*3+2) (k x);rw[List.set_append_left _ _ (by omega),List.set_append_left _ _ (by rw[List.length_set];omega),List.set_append_left _ _ (by rw[List.length_set,List.length_set];omega),aem l i x hi]at h1;exact h1
theorem abe{l:List α}{d:α}(hr:Row w g t (cc3 f h k l++post))(i j:Nat)(hi:i<l.length)(hj:j<l.length) :
  Row ((((((w.setCell ⟨g,i*3,none⟩ (f l[j])).setCell ⟨g,i*3+1,none⟩ (h l[j])).setCell ⟨g,i*3+2,none⟩ (k l[j])).setCell ⟨g,j*3,none⟩ (f l[i])).setCell ⟨g,j*3+1,none⟩ (h l[i])).setCell ⟨g,j*3+2,none⟩ (k l[i])) g t (cc3 f h k (swq d l i j)++post):=by
 have h1:=Mr (Mr hr i hi l[j]) j (by simpa using hj) l[i];unfold swq;rw[List.getElem?_eq_getElem hi,List.getElem?_eq_getElem hj];exact h1
theorem Tc(w:World)(g a b c d e i:Nat)(u v x y z s:Value):w.grownBy ((((((w.setCell ⟨g,a,none⟩ u).setCell ⟨g,b,none⟩ v).setCell ⟨g,c,none⟩ x).setCell ⟨g,d,none⟩ y).setCell ⟨g,e,none⟩ z).setCell ⟨g,i,none⟩ s) (some g):=
 aB (aB (aB (aB (aB (aB (aj w (some g)) _ _) _ _) _ _) _ _) _ _) _ _
end
theorem agi{w:World}{g:Nat}{t:TypeId}{cs:List Value}(h:Row w g t cs):Row w.drew g t cs:=h
abbrev Pce:=ByteArray×Nat×Nat
def oI:Pce:=(⟨#[]⟩,0,0)
def pcT(t:Pce):Value:=.string t.1
def pcW(t:Pce):Value:=.int .i64 (t.2.1:Int)
def pcO(t:Pce):Value:=.int .i64 (t.2.2:Int)
def p3(l:List Pce):List Value:=cc3 pcT pcW pcO l
namespace Bm
def lt3(a b:Pce):Prop:=b.2.1<a.2.1\/(a.2.1=b.2.1/\a.2.2<b.2.2)
instance (a b:Pce):Decidable (lt3 a b):=by unfold lt3;exact inferInstance
end Bm
theorem qV(A:Option Addr)(n c:Nat)(w:World):Calls prog 50 #[.slice A n c] w fun e w'=>e=.returned (.int .i64 (n:Int))/\w=w':=by
 go_enter func50,ntmps50
 go_wp2;go_ret;exact⟨rfl,rfl⟩
theorem OV(g n c i j:Nat)(x y:Pce)(w:World)(hi:i<n)(hj:j<n)(h0:w.cell? ⟨g,i*3+1,none⟩=some (pcW x)/\w.cell? ⟨g,i*3+2,none⟩=some (pcO x))(h1:w.cell? ⟨g,j*3+1,none⟩=some (pcW y)/\w.cell? ⟨g,j*3+2,none⟩=some (pcO y)) :
  Calls prog 232 #[.slice (some ⟨g,0,none⟩) n c,.int .i64 (i:Int),.int .i64 (j:Int)] w fun e w'=>e=.returned (.bool (decide (lt3 x y)))/\Below w.heap.size w w':=by
 obtain⟨tx,a,p⟩:=x;obtain⟨ty,b,q⟩:=y;obtain⟨c0,c1⟩:=h0;obtain⟨k0,k1⟩:=h1;simp only[pcW,pcO]at c0 c1 k0 k1;obtain⟨r,hr⟩:∃r,r=decide (lt3 (tx,a,p) (ty,b,q)):=⟨_,rfl⟩;rw[<-hr];have Hr:=hid hr;clear hr;by_cases hab:a=b
 ·subst hab;have hd0:((a:Int) == (a:Int))=true:=by simp
  have Hf:Hid (decide (p<q)=r):=hid (by rw[Hr.out,decide_eq_decide];unfold lt3;simp);go_enter func232,ntmps232
  go_wp2_with fail
  go_quiet (fail)
  go_wp2_with fail
  go_quiet (fail)
  go_wp2;go_ret;exact⟨congrArg (fun x=>Ending.returned (Value.bool x)) Hf.out,below_drewN (below_drewN (Below.refl _ _) _) _⟩
 ·have hd0:((a:Int) == (b:Int))=false:=by simp;omega
  have Hf:Hid (decide (b<a)=r):=hid (by rw[Hr.out,decide_eq_decide];unfold lt3;simp;omega);go_enter func232,ntmps232
  go_wp2_with fail
  go_quiet (fail)
  go_wp2_with fail
  go_quiet (fail)
  go_wp2;go_ret;exact⟨congrArg (fun x=>Ending.returned (Value.bool x)) Hf.out,below_drewN (below_drewN (Below.refl _ _) _) _⟩
theorem OX(g c i j:Nat)(L:List Pce)(post:List Value)(w:World)(hi:i<L.length)(hj:j<L.length)(hr:Row w g 55 (p3 L++post)) :
  Calls prog 235 #[.slice (some ⟨g,0,none⟩) L.length c,.int .i64 (i:Int),.int .i64 (j:Int)] w fun e w'=>e=.returned (.tuple #[])/\Row w' g 55 (p3 (swq oI L i j)++post)/\w.grownBy w' (some g):=by
 obtain⟨c0,c1,c2⟩:=nA (f:=pcT) (h:=pcW) (k:=pcO) hr i hi;obtain⟨k0,k1,k2⟩:=nA (f:=pcT) (h:=pcW) (k:=pcO) hr j hj;have f0:=hr.free (i*3);have f1:=hr.free (i*3+1);have f2:=hr.free (i*3+2);have f3:=hr.free (j*3);have f4:=hr.free (j*3+1);have f5:=hr.free (j*3+2);have hs:=abe (f:=pcT) (h:=pcW) (k:=pcO) (d:=oI) hr i j hi hj;rw[show cc3 pcT pcW pcO (swq oI L i j)=p3 (swq oI L i j)from rfl]at hs;have Hs:=hid hs;clear hs hr;generalize p3 (swq oI L i j)=L2 at *;simp only[pcT,pcW,pcO]at c0 c1 c2 k0 k1 k2 Hs;generalize L[i].1=s at *;generalize L[i].2.1=a at *;generalize L[i].2.2=p at *;generalize L[j].1=t at *;generalize L[j].2.1=b at *;generalize L[j].2.2=q at *;obtain⟨v1,hy1⟩:=cell?_setCell_some (w:=w) (p:=⟨g,i*3,none⟩) (x:=.string t) (q:=⟨g,j*3,none⟩) k0;obtain⟨v2,hy2⟩:=cell?_setCell_some (w:=w) (p:=⟨g,i*3,none⟩) (x:=.string t) (q:=⟨g,j*3+1,none⟩) k1;obtain⟨v3,hy3⟩:=cell?_setCell_some (w:=w) (p:=⟨g,i*3,none⟩) (x:=.string t) (q:=⟨g,j*3+2,none⟩) k2;obtain⟨v5,hy5⟩:=cell?_setCell_some (w:=w.setCell ⟨g,i*3,none⟩ (.string t)) (p:=⟨g,i*3+1,none⟩) (x:=.int .i64 (b:Int)) (q:=⟨g,j*3+1,none⟩) hy2;obtain⟨v6,hy6⟩:=cell?_setCell_some (w:=w.setCell ⟨g,i*3,none⟩ (.string t)) (p:=⟨g,i*3+1,none⟩) (x:=.int .i64 (b:Int)) (q:=⟨g,j*3+2,none⟩) hy3;obtain⟨v9,hy9⟩:=cell?_setCell_some (w:=(w.setCell ⟨g,i*3,none⟩ (.string t)).setCell ⟨g,i*3+1,none⟩ (.int .i64 (b:Int))) (p:=⟨g,i*3+2,none⟩) (x:=.int .i64 (q:Int)) (q:=⟨g,j*3+2,none⟩) hy6;clear hy2 hy3 hy6;go_enter func235,ntmps235
 go_wp2_with fail
 go_region
 all_goals go_end0
 all_goals exact⟨rfl,agi Hs.out,bf (Tc _ _ _ _ _ _ _ _ _ _ _ _ _ _)⟩
theorem JA(name:String)(i f:Nat)(p n c:Nat)(A:Option Addr)(w:World)(h:w.cell? ⟨p,0,none⟩=some (.slice A n c))
  (h1:∀w,(typeInfo 52).run prog w=.ok prog.types[52]! w)
  (h2:(prog.types[52]!).methods.find? (fun m=>m.name == name)=some ((prog.types[52]!).methods[i]!))
  (hp:((prog.types[52]!).methods[i]!).path=#[]) (hf:((prog.types[52]!).methods[i]!).func=some (f,false))
  (hs:∀s w,(Builtin.ssaWrapNilChk_ #[52] 52 #[.pointer (some ⟨p,0,none⟩),strVal "",strVal s]).run prog w=.ok (.pointer (some ⟨p,0,none⟩)) w) :
  (method 403 52 (.pointer (some ⟨p,0,none⟩)) name).run prog w=.ok (f,.slice A n c) w:=by
 rw[method];simp only[Sem.run_bind,h1,Result.andThen_ok,h2,hp,hf,follow,receiverAt,underlying,Sem.run_pure,Place.get];simp[loadVar,isAgg,underlying,underlying94,underlying52,h,Result.andThen,hs,asAddr]
theorem JB:∀w,(typeInfo 52).run prog w=.ok prog.types[52]! w:=fun _=>by kernel_rfl
theorem Vq(p n c:Nat)(A:Option Addr)(w:World)(h:w.cell? ⟨p,0,none⟩=some (.slice A n c)):(method 403 52 (.pointer (some ⟨p,0,none⟩)) "Len").run prog w=.ok (50,.slice A n c) w:=
 JA "Len" 0 50 p n c A w h JB (by kernel_rfl) (by kernel_rfl) (by kernel_rfl) (fun _ _=>by kernel_rfl)
theorem xS(p n c:Nat)(A:Option Addr)(w:World)(h:w.cell? ⟨p,0,none⟩=some (.slice A n c)):(method 403 52 (.pointer (some ⟨p,0,none⟩)) "Less").run prog w=.ok (232,.slice A n c) w:=
 JA "Less" 1 232 p n c A w h JB (by kernel_rfl) (by kernel_rfl) (by kernel_rfl) (fun _ _=>by kernel_rfl)
theorem xU(p n c:Nat)(A:Option Addr)(w:World)(h:w.cell? ⟨p,0,none⟩=some (.slice A n c)):(method 403 52 (.pointer (some ⟨p,0,none⟩)) "Swap").run prog w=.ok (235,.slice A n c) w:=
 JA "Swap" 4 235 p n c A w h JB (by kernel_rfl) (by kernel_rfl) (by kernel_rfl) (fun _ _=>by kernel_rfl)
theorem afW(p:Nat)(w:World):(method 403 52 (.pointer (some ⟨p,0,none⟩)) "Push").run prog w=.ok (234,.pointer (some ⟨p,0,none⟩)) w:=by kernel_rfl
theorem ajF(p:Nat)(w:World):(method 403 52 (.pointer (some ⟨p,0,none⟩)) "Pop").run prog w=.ok (233,.pointer (some ⟨p,0,none⟩)) w:=by kernel_rfl
structure fu(w:World)(base p g cap:Nat)(L:List Pce):Prop where
 IX:base<=p
 IW:base<=g
 fits:L.length<=cap
 most:cap<=maxLen
 var:Row w p 94 [.slice (some ⟨g,0,none⟩) L.length cap]
 row:∃post,post.length+L.length*3=cap*3/\Row w g 55 (p3 L++post)
structure jR(base:Nat)(w w':World):Prop where
 bel:Below base w w'
 blk:∀b,b<w.heap.size->(∀(t:TypeId) (cs:List Value),(t=94\/t=55)->¬Row w b t cs)->w'.heap[b]?=w.heap[b]?
section
variable {w w' w'':World} {base p g cap:Nat} {L:List Pce}
theorem jR.trans(h:jR base w w')(h':jR base w' w''):jR base w w'':=
 ⟨h.bel.trans h'.bel,fun b h1 h2=>by
  have h3:=h.blk b h1 h2;refine(h'.blk b (Nat.lt_of_lt_of_le h1 h.bel.size) (fun t cs ht hr=>h2 t cs ht ?_)).trans h3;unfold Row at hr ⊢;rw[<-h3];exact hr⟩
theorem jR.below(h:Below w.heap.size w w')(hb:base<=w.heap.size):jR base w w':=⟨h.mono hb,fun b h1 _=>h.block b h1⟩
theorem jR.row(h:jR base w w'){b:Nat}{t:TypeId}{cs:List Value}(h1:t≠94)(h2:t≠55)(hr:Row w b t cs):Row w' b t cs:=hr.keep (h.blk b hr.lt (fun t' cs' ht hr'=>by
 unfold Row at hr hr';rw[hr]at hr';injection hr' with hr'
 injection hr' with _ e
 rcases ht with e1 | e1
 ·exact h1 (e.trans e1)
 ·exact h2 (e.trans e1)))
structure bB(base p g:Nat)(w w':World):Prop where
 bel:Below base w w'
 blk:∀b,b<w.heap.size->b≠p->b≠g->w'.heap[b]?=w.heap[b]?
theorem bB.refl(base p g:Nat)(w:World):bB base p g w w:=⟨Below.refl _ _,fun _ _ _ _=>rfl⟩
theorem bB.trans(h:bB base p g w w')(h':bB base p g w' w''):bB base p g w w'':=
 ⟨h.bel.trans h'.bel,fun b h1 h2 h3=>(h'.blk b (Nat.lt_of_lt_of_le h1 h.bel.size) h2 h3).trans (h.blk b h1 h2 h3)⟩
theorem bB.below(h:Below w.heap.size w w')(hb:base<=w.heap.size):bB base p g w w':=⟨h.mono hb,fun b hb _ _=>h.block b hb⟩
theorem bB.grown{b:Nat}(h:w.grownBy w' (some b))(hlt:b<w.heap.size)(ht:b=p\/b=g)(hb:base<=b):bB base p g w w':=
 ⟨below_grown h hb (Nat.le_trans hb (Nat.le_of_lt hlt)),fun b' h1 h2 h3=>h.block b' h1 (fun e=>by
  injection e with e
  rcases ht with h | h
  ·exact h2 (e.trans h)
  ·exact h3 (e.trans h))⟩
theorem bB.kept(h:bB base p g w w')(hp:fu w base p g cap L):jR base w w':=by
 refine⟨h.bel,fun b h1 h2=>h.blk b h1 ?_ ?_⟩
 ·rintro rfl;exact h2 _ _ (.inl rfl) hp.var
 ·rintro rfl;obtain⟨_,_,hv⟩:=hp.row;exact h2 _ _ (.inr rfl) hv
theorem fu.ne(h:fu w base p g cap L):p≠g:=by
 obtain⟨post,_,hr⟩:=h.row;rintro rfl;have hv:=h.var;unfold Row at hr hv;rw[hr]at hv;injection hv with hv
 injection hv with _ e
 exact absurd e (by decide)
theorem fu.below(h:fu w base p g cap L)(hb:Below w.heap.size w w'):fu w' base p g cap L:=by
 obtain⟨post,h1,hr⟩:=h.row;exact⟨h.IX,h.IW,h.fits,h.most,aL h.var hb,post,h1,aL hr hb⟩
theorem fu.same{L':List Pce}(h:fu w base p g cap L)(hl:L'.length=L.length)(hg:w.grownBy w' (some g)){post:List Value}(hp:post.length+L.length*3=cap*3)(hr:Row w' g 55 (p3 L'++post)):fu w' base p g cap L':=
 ⟨h.IX,h.IW,by rw[hl];exact h.fits,h.most,by rw[hl];exact h.var.keep (hg.block p h.var.lt (fun e=>by injection e with e;exact h.ne e)),post,by rw[hl];exact hp,hr⟩
theorem fu.cell(h:fu w base p g cap L):w.cell? ⟨p,0,none⟩=some (.slice (some ⟨g,0,none⟩) L.length cap):=h.var.cell 0
theorem fu.own(h:fu w base p g cap L):w.ownsRow base 55 3 (.slice (some ⟨g,0,none⟩) L.length cap) L.length (p3 L):=by
 obtain⟨post,h1,hr⟩:=h.row;have hl:=iV (f:=pcT) (h:=pcW) (k:=pcO) L;refine⟨hl,.inr ⟨g,cap,(p3 L++post).toArray,rfl,h.IW,hr,h.fits,h.most,?_,?_⟩⟩
 ·rw[List.size_toArray,List.length_append];unfold p3;omega
 ·rw[List.toList_toArray,List.take_left' (by exact hl)]
theorem Js(hp:Row w p 94 [.slice (some ⟨g,0,none⟩) L.length cap])(hb:base<=p)(h:w.ownsRow base 55 3 (.slice (some ⟨g,0,none⟩) L.length cap) L.length (p3 L)):fu w base p g cap L:=by
 have hl:=iV (f:=pcT) (h:=pcW) (k:=pcO) L;rcases h.2 with⟨h1,_⟩ | ⟨g',cap',cur,e,hb2,hg,hnc,hcm,hcs,ht⟩
 ·cases h1
 ·injection e with e1 _ e3
  injection e1 with e1
  injection e1 with e1
  subst e1 e3;refine⟨hb,hb2,hnc,hcm,hp,cur.toList.drop (L.length*3),?_,?_⟩
  ·have hcl:cur.toList.length=cur.size:=Array.length_toList;rw[List.length_drop];omega
  ·unfold Row;rw[<-ht,List.take_append_drop,Array.toArray_toList];exact hg
end
theorem zZ:(prog.info? 55).map (fun i=>(i.zero,i.size,i.bytes))=some (some (.agg #[.string ⟨#[]⟩,.int .i64 0,.int .i64 0]),3,32):=by kernel_rfl
theorem MK(v:Value)(W:World):(Instr.typeAssert (.iface 55 v) 20 55 true).run prog W=.ok (.tuple #[v,.bool true]) W:=by kernel_rfl
theorem afN(L:List Pce)(tx:ByteArray)(a q:Nat):p3 L++[.string tx,.int .i64 (a:Int),.int .i64 (q:Int)]=p3 (L++[(tx,a,q)]):=by
 unfold p3;rw[Ns];rfl
theorem Fh{base p g cap a q gN jJ:Nat}{tx:ByteArray}{L:List Pce}{w w1 wN:World}(hp:fu w1 base p g cap L)(hw:Below w.heap.size w w1)(hb:base<=w.heap.size)
  (ho:wN.ownsRow base 55 3 (.slice (some ⟨gN,0,none⟩) (L.length+1) jJ) (L.length+1) (p3 L++[.string tx,.int .i64 (a:Int),.int .i64 (q:Int)])) (hg:w1.grownBy wN (some g)) :
  fu (wN.setCell ⟨p,0,none⟩ (.slice (some ⟨gN,0,none⟩) (L.length+1) jJ)) base p gN jJ (L++[(tx,a,q)])/\bB base p g w (wN.setCell ⟨p,0,none⟩ (.slice (some ⟨gN,0,none⟩) (L.length+1) jJ)):=by
 obtain⟨post,hpl,hrow⟩:=hp.row;have hv:Row wN p 94 [.slice (some ⟨g,0,none⟩) L.length cap]:=hp.var.keep (hg.block p hp.var.lt (fun e=>by injection e with e;exact hp.ne e));have hv2:=hv.aT 0 (.slice (some ⟨gN,0,none⟩) (L.length+1) jJ);have hv3:Row (wN.setCell ⟨p,0,none⟩ (.slice (some ⟨gN,0,none⟩) (L.length+1) jJ)) p 94 [.slice (some ⟨gN,0,none⟩) (L++[(tx,a,q)]).length jJ]:=by
  rw[List.length_append];exact hv2
 rw[afN]at ho;have hne:(Value.slice (some ⟨gN,0,none⟩) (L.length+1) jJ).ownBlock≠some p:=fun e=>by
  obtain⟨c,fz,hk⟩:=Lib.ownsRow_kind ho p e;unfold Row at hv;rw[hv]at hk;injection hk with hk
  injection hk with _ hk
  exact absurd hk (by decide)
 have ho2:=ownsRow_setCell_other ho (a:=⟨p,0,none⟩) hne (.slice (some ⟨gN,0,none⟩) (L.length+1) jJ);refine⟨Js hv3 hp.IX (by rw[List.length_append];exact ho2),?_⟩;have k1:bB base p g w w1:=bB.below hw hb;have k2:bB base p g w1 wN:=bB.grown hg hrow.lt (.inr rfl) hp.IW;have k3:bB base p g wN (wN.setCell ⟨p,0,none⟩ (.slice (some ⟨gN,0,none⟩) (L.length+1) jJ)):=bB.grown (aB (aj wN (some p)) 0 _) hv.lt (.inl rfl) hp.IX;exact(k1.trans k2).trans k3
theorem OW(base p g cap a q:Nat)(tx:ByteArray)(L:List Pce)(w:World)(hb:base<=w.heap.size)(hL:L.length<=100000)(hp:fu w base p g cap L) :
  Calls prog 234 #[.pointer (some ⟨p,0,none⟩),.iface 55 (.agg #[.string tx,.int .i64 (a:Int),.int .i64 (q:Int)])] w fun e w'=>e=.returned (.tuple #[])/\∃g' cap',(g'=g\/w.heap.size<=g')/\fu w' base p g' cap' (L++[(tx,a,q)])/\bB base p g w w':=by
 obtain⟨i0,hi,hz0,hz1,hz2⟩:=info_parts zZ;have Hp:=hid hp;clear hp;go_enter func234,ntmps234
 have hta:=fun W=>MK (.agg #[.string tx,.int .i64 (a:Int),.int .i64 (q:Int)]) W
 go_wp2_with fail
 clear hta;obtain⟨w1,hw1⟩:∃w1,w1=w.alloc (.cells #[.string tx,.int .i64 (a:Int),.int .i64 (q:Int)] 55):=⟨_,rfl⟩;have hbl:Below w.heap.size w w1:=by rw[hw1];exact(Below.refl _ _).alloc (Nat.le_refl _) _
 have hp1:=Hp.out.below hbl;have Gl:Row w1 w.heap.size 55 [.string tx,.int .i64 (a:Int),.int .i64 (q:Int)]:=by rw[hw1];exact Row.new w _ _
 have hgb:g<w.heap.size:=by
  obtain⟨_,_,hr⟩:=Hp.out.row;exact hr.lt
 rw[<-hw1];have hs1:w1.heap.size=w.heap.size+1:=by rw[hw1];simp
 clear hw1;have hcp:∀W,w1.grownBy W (some g)->W.cell? ⟨p,0,none⟩=some (.slice (some ⟨g,0,none⟩) L.length cap):=fun W hW=>by
  rw[hW.cell_far _ (by exact hp1.var.lt) (fun e=>hp1.ne (by injection e)),hp1.cell]
 have hfp:∀W,w1.grownBy W (some g)->W.frozen? ⟨p,0,none⟩=false:=fun W hW=>by
  rw[hW.frozen_far _ (by exact hp1.var.lt) (fun e=>hp1.ne (by injection e)),hp1.var.free]
 have hb0:∀W,w1.grownBy W (some g)->W.cell? ⟨w.heap.size,0,none⟩=some (.string tx):=fun W hW=>by
  rw[hW.cell_far _ (by exact Gl.lt) (fun e=>by injection e with e;exact absurd (show w.heap.size=g from e) (by omega)),Gl.cell];rfl
 have hb1:∀W,w1.grownBy W (some g)->W.cell? ⟨w.heap.size,1,none⟩=some (.int .i64 (a:Int)):=fun W hW=>by
  rw[hW.cell_far _ (by exact Gl.lt) (fun e=>by injection e with e;exact absurd (show w.heap.size=g from e) (by omega)),Gl.cell];rfl
 have hb2:∀W,w1.grownBy W (some g)->W.cell? ⟨w.heap.size,2,none⟩=some (.int .i64 (q:Int)):=fun W hW=>by
  rw[hW.cell_far _ (by exact Gl.lt) (fun e=>by injection e with e;exact absurd (show w.heap.size=g from e) (by omega)),Gl.cell];rfl
 have c0:=hcp w1 (aj w1 _);have c1:=hb0 w1 (aj w1 _);have c2:=hb1 w1 (aj w1 _);have c3:=hb2 w1 (aj w1 _);have c0A:=hcp (w1.alloc (.cells #[.string tx,.int .i64 (a:Int),.int .i64 (q:Int)] 55)) (aF (aj w1 _) _);have Hcp:=hid hcp;have Hfp:=hid hfp;have Hbl:=hid hbl;have Hp1:=hid hp1;have Hoa:Hid ((w1.alloc (.cells #[.string tx,.int .i64 (a:Int),.int .i64 (q:Int)] 55)).drew.ownsRow base 55 3 (.slice (some ⟨g,0,none⟩) L.length cap) L.length (p3 L)):=hid (hp1.own.alloc _);have dx:Hid (∀(j:Nat) (u:Value),[Value.string tx,Value.int .i64 (a:Int),Value.int .i64 (q:Int)][j]?=some u->(w1.alloc (.cells #[.string tx,.int .i64 (a:Int),.int .i64 (q:Int)] 55)).drew.cell? ((⟨w1.heap.size,0,none⟩:Addr).add j)=some u):=hid (fun j u hu=>by
  match j,hu with
  | 0,hu=>simp at hu;subst hu;simp[Addr.add]
  | 1,hu=>simp at hu;subst hu;simp[Addr.add]
  | 2,hu=>simp at hu;subst hu;simp[Addr.add])
 have hs0:base<=w1.heap.size:=by omega
 clear hcp hfp hb0 hb1 hb2 hbl hp1 Gl Hp hs1 hgb;go_region_law ((refine step_append_lies ((w1.alloc (.cells #[.string tx,.int .i64 (a:Int),.int .i64 (q:Int)] 55)).drew) (by rfl) _ _ _ (by rfl) base 55 i0 (.agg #[.string ⟨#[]⟩,.int .i64 0,.int .i64 0]) 3 32 underlying94 hi hz0 hz1 hz2 rfl (by omega) (.slice (some ⟨g,0,none⟩) L.length cap) L.length (p3 L) (by rfl) Hoa.out ⟨w1.heap.size,0,none⟩ 1 1 [.string tx,.int .i64 (a:Int),.int .i64 (q:Int)] (by rfl) (by rfl) dx.out (by intro u hu;simp at hu;rcases hu with rfl | rfl | rfl<;>rfl) (by omega) (by unfold maxLen;omega) (by omega) (by simp;omega) (w1.heap.size+1) (by simp) ?_;intro gN jJ wN hoN hgN Im _;have HoN:=hid hoN;have HGN:Hid (w1.grownBy wN (some g)):=hid ((bf (aF (aj w1 (some g)) _)).trans hgN);have csN:=Hcp.out wN HGN.out;have fsN:=Hfp.out wN HGN.out;have Hat:Hid (gN=g\/w.heap.size<=gN):=hid (Im.elim (fun h=>.inl (by injection h with h;exact h.symm)) (fun h=>.inr (by have:=Hbl.out.size;omega)));clear hoN hgN Im))
 all_goals
  go_wp2_with fail
  go_end0
  obtain⟨r1,r2⟩:=Fh Hp1.out Hbl.out hb HoN.out HGN.out;exact⟨rfl,gN,jJ,Hat.out,r1,r2⟩
theorem afO(L:List Pce)(k:Nat):p3 (L.take k)=(p3 L).take (k*3):=YF L k
theorem aaE{base p g cap n:Nat}{L:List Pce}{w w1:World}(hp:fu w1 base p g cap L)(hw:Below w.heap.size w w1)(hb:base<=w.heap.size)(hn:L.length=n+1) :
  fu (w1.setCell ⟨p,0,none⟩ (.slice (some ⟨g,0,none⟩) n cap)) base p g cap (L.take n)/\bB base p g w (w1.setCell ⟨p,0,none⟩ (.slice (some ⟨g,0,none⟩) n cap)):=by
 obtain⟨post,hpl,hrow⟩:=hp.row;have hv:=hp.var;have hv2:=hv.aT 0 (.slice (some ⟨g,0,none⟩) n cap);have hlt:(L.take n).length=n:=by rw[List.length_take];omega
 have hv3:Row (w1.setCell ⟨p,0,none⟩ (.slice (some ⟨g,0,none⟩) n cap)) p 94 [.slice (some ⟨g,0,none⟩) (L.take n).length cap]:=by
  rw[hlt];exact hv2
 have hf:=hp.fits;have hl:=iV (f:=pcT) (h:=pcW) (k:=pcO) L;have k1:bB base p g w w1:=bB.below hw hb;have k3:bB base p g w1 (w1.setCell ⟨p,0,none⟩ (.slice (some ⟨g,0,none⟩) n cap)):=bB.grown (aB (aj w1 (some p)) 0 _) hv.lt (.inl rfl) hp.IX;refine⟨⟨hp.IX,hp.IW,by omega,hp.most,hv3,(p3 L).drop (n*3)++post,?_,?_⟩,k1.trans k3⟩
 ·rw[List.length_append,List.length_drop,hlt];unfold p3;omega
 ·rw[afO,<-List.append_assoc,List.take_append_drop];exact hrow.far (fun e=>hp.ne e.symm) _
theorem Vh(base p g cap n:Nat)(L:List Pce)(w:World)(hb:base<=w.heap.size)(hL:L.length<=100000)(hn:L.length=n+1)(hp:fu w base p g cap L) :
  Calls prog 233 #[.pointer (some ⟨p,0,none⟩)] w fun e w'=>e=.returned (.iface 55 (.agg #[pcT (L[n]?.getD oI),pcW (L[n]?.getD oI),pcO (L[n]?.getD oI)]))/\fu w' base p g cap (L.take n)/\bB base p g w w':=by
 have Hp:=hid hp;have c0:=hp.cell;obtain⟨post,hpl,hrow⟩:=hp.row;obtain⟨k0,k1,k2⟩:=nA (f:=pcT) (h:=pcW) (k:=pcO) hrow n (by omega);have hge:L[n]?.getD oI=L[n]:=by rw[List.getElem?_eq_getElem (by omega),Option.getD_some]
 rw[hge];have dR:=hid (aaE hp (Below.refl _ _) hb hn);have hf0:w.frozen? ⟨p,0,none⟩=false:=hp.var.free 0;have hpb:=hp.var.lt;have hgb:=hrow.lt;have hft:=hp.fits;have Hn:Hid (L.length=n+1):=hid hn;clear hp hrow hpl hge;simp only[pcT,pcW,pcO]at k0 k1 k2 ⊢;generalize L[n].1=tx at *;generalize L[n].2.1=a at *;generalize L[n].2.2=q at *;rw[hn]at c0 hft;have hn1:n<=100000:=by omega
 clear hn hL Hp;go_enter func233,ntmps233
 go_wp2_with fail
 go_ret;obtain⟨r1,r2⟩:=dR.out;have hb2:=(Below.refl (w.setCell ⟨p,0,none⟩ (.slice (some ⟨g,0,none⟩) n cap)).heap.size _).alloc (Nat.le_refl _) (.cells #[.string tx,.int .i64 (a:Int),.int .i64 (q:Int)] 55);exact⟨rfl,r1.below hb2,r2.trans (bB.below hb2 (Nat.le_trans hb r2.bel.size))⟩
end Go.Proofs.YtaebnkeddcbmkaaGreat
namespace Go.Proofs.YtaebnkeddcbmkaaGreat.Bm
theorem gT(a b:Pce):lt3 a b↔(b.2.1<a.2.1\/(a.2.1=b.2.1/\a.2.2<b.2.2)):=Iff.rfl
abbrev at3(l:List Pce)(i:Nat):Pce:=l[i]?.getD oI
theorem yA(l:List Pce)(i j k:Nat)(hi:i<l.length)(hj:j<l.length):at3 (swq oI l i j) k=if k=j then at3 l i else if k=i then at3 l j else at3 l k:=by
 unfold at3 swq;rw[List.getElem?_set,List.length_set];by_cases h1:j=k
 ·subst h1;rw[if_pos rfl,if_pos rfl,if_pos hj,Option.getD_some]
 ·rw[if_neg h1,if_neg (fun h=>h1 h.symm),List.getElem?_set];by_cases h2:i=k
  ·subst h2;rw[if_pos rfl,if_pos rfl,if_pos hi,Option.getD_some]
  ·rw[if_neg h2,if_neg (fun h=>h2 h.symm)]
theorem rG(l:List Pce)(i j:Nat)(hi:i<l.length)(hj:j<l.length):(swq oI l i j).Perm l:=by
 unfold swq;rw[List.getElem?_eq_getElem hi,List.getElem?_eq_getElem hj,Option.getD_some,Option.getD_some];rcases Nat.lt_trichotomy i j with h | h | h
 ·exact List.set_set_perm hi hj
 ·subst h;exact List.set_set_perm hi hj
 ·exact List.set_set_perm hi hj
def iw(l:List Pce)(n:Nat):Prop:=∀k,0<k->k<n->¬lt3 (at3 l k) (at3 l ((k-1)/2))
def UpQ(l:List Pce)(n j:Nat):Prop:=(∀k,0<k->k<n->k≠j->¬lt3 (at3 l k) (at3 l ((k-1)/2)))/\(0<j->∀k,0<k->k<n->(k-1)/2=j->¬lt3 (at3 l k) (at3 l ((j-1)/2)))
def zf(l:List Pce)(n i0:Nat):Prop:=∀k,0<k->k<n->i0<=(k-1)/2->¬lt3 (at3 l k) (at3 l ((k-1)/2))
def Gn(l:List Pce)(n i0 i:Nat):Prop:=(∀k,0<k->k<n->i0<=(k-1)/2->(k-1)/2≠i->¬lt3 (at3 l k) (at3 l ((k-1)/2)))/\(i0<i->i0<=(i-1)/2->∀k,0<k->k<n->(k-1)/2=i->¬lt3 (at3 l k) (at3 l ((i-1)/2)))
theorem zV{l:List Pce}{n:Nat}(h:zf l n 0):iw l n:=fun k h0 hk=>h k h0 hk (Nat.zero_le _)
theorem Ip(l:List Pce)(n:Nat):zf l n (n/2):=fun k h0 hk hi=>by omega
theorem Ob{l:List Pce}{n i:Nat}(h:zf l n (i+1)):Gn l n i i:=⟨fun k h0 hk hi hne=>h k h0 hk (by omega),fun h0=>by omega⟩
theorem abU(l:List Pce)(n:Nat)(h:UpQ l n 0):iw l n:=fun k h0 hk=>h.1 k h0 hk (by omega)
theorem agK(l:List Pce)(n j:Nat)(h:UpQ l n j)(hj:¬lt3 (at3 l j) (at3 l ((j-1)/2))):iw l n:=fun k h0 hk=>by
 by_cases e:k=j
 ·subst e;exact hj
 ·exact h.1 k h0 hk e
theorem abV(l:List Pce)(n j:Nat)(hn:n<=l.length)(hj:j<n)(h0:0<j)(h:UpQ l n j)(hlt:lt3 (at3 l j) (at3 l ((j-1)/2))):UpQ (swq oI l ((j-1)/2) j) n ((j-1)/2):=by
 obtain⟨p,hp⟩:∃p,p=(j-1)/2:=⟨_,rfl⟩;rw[<-hp]at hlt ⊢;obtain⟨h1,h2⟩:=h;rw[<-hp]at h2;have hs:=fun k=>yA l p j k (by omega) (by omega)
 refine⟨fun k k0 kn kp=>?_,fun p0 k k0 kn kp=>?_⟩
 ·rw[hs,hs];by_cases e:k=j
  ·subst e;rw[if_pos rfl,<-hp,if_neg (by omega),if_pos rfl];rw[gT]at hlt ⊢;omega
  ·rw[if_neg e,if_neg kp];by_cases e2:(k-1)/2=j
   ·rw[if_pos e2];exact h2 h0 k k0 kn e2
   ·rw[if_neg e2];by_cases e3:(k-1)/2=p
    ·rw[if_pos e3];have:=h1 k k0 kn e;rw[e3]at this;rw[gT]at hlt this ⊢;omega
    ·rw[if_neg e3];exact h1 k k0 kn e
 ·rw[hs,hs,if_neg (show ¬(p-1)/2=j by omega),if_neg (show ¬(p-1)/2=p by omega)];have hpp:=h1 p p0 (by omega) (by omega);by_cases e:k=j
  ·rw[if_pos e];exact hpp
  ·rw[if_neg e,if_neg (show ¬k=p by omega)];have:=h1 k k0 kn e;rw[kp]at this;rw[gT]at this hpp ⊢;omega
theorem qD(l:List Pce)(n i0 i:Nat)(h:Gn l n i0 i)(hi:∀k,0<k->k<n->(k-1)/2=i->¬lt3 (at3 l k) (at3 l i)):zf l n i0:=fun k h0 hk hp=>by
 by_cases e:(k-1)/2=i
 ·rw[e];exact hi k h0 hk e
 ·exact h.1 k h0 hk hp e
theorem sK(l:List Pce)(n i0 i j:Nat)(hn:n<=l.length)(hj:j<n)(h0:0<j)(hi0:i0<=i)(hji:(j-1)/2=i)(h:Gn l n i0 i)(hlt:lt3 (at3 l j) (at3 l i))(TD:∀k,0<k->k<n->(k-1)/2=i->¬lt3 (at3 l k) (at3 l j)) :
  Gn (swq oI l i j) n i0 j:=by
 obtain⟨h1,h2⟩:=h;have hs:=fun k=>yA l i j k (by omega) (by omega)
 refine⟨fun k k0 kn kq kp=>?_,fun _ _ k k0 kn kp=>?_⟩
 ·rw[hs,hs];by_cases e:k=j
  ·subst e;rw[if_pos rfl,hji,if_neg (by omega),if_pos rfl];rw[gT]at hlt ⊢;omega
  ·rw[if_neg e,if_neg kp];by_cases e2:(k-1)/2=i
   ·rw[if_pos e2,if_neg (show ¬k=i by omega)];exact TD k k0 kn e2
   ·rw[if_neg e2];by_cases e3:k=i
    ·rw[if_pos e3];have:=h2 (by omega) (by omega) j h0 hj hji;rw[e3];exact this
    ·rw[if_neg e3];exact h1 k k0 kn kq e2
 ·rw[hs,hs,hji,if_neg (show ¬k=j by omega),if_neg (show ¬k=i by omega),if_neg (show ¬i=j by omega),if_pos rfl];have:=h1 k k0 kn (by omega) (by omega);rw[kp]at this;exact this
theorem Iq(l:List Pce)(n:Nat)(h:iw l n):∀k,k<n->¬lt3 (at3 l k) (at3 l 0):=by
 intro k;induction k using Nat.strongRecOn with
 | _ k ih=>
  intro hk;by_cases e:k=0
  ·subst e;rw[gT];omega
  ·have h1:=h k (by omega) hk;have h2:=ih ((k-1)/2) (by omega) (by omega);rw[gT]at h1 h2 ⊢;omega
theorem Oc(l:List Pce)(x:Pce)(h:iw l l.length):UpQ (l++[x]) (l.length+1) l.length:=by
 have hg:∀k,k<l.length->at3 (l++[x]) k=at3 l k:=fun k hk=>by
  unfold at3;rw[List.getElem?_append_left hk]
 refine⟨fun k k0 kn kj=>?_,fun h0 k k0 kn kp=>by omega⟩;rw[hg k (by omega),hg ((k-1)/2) (by omega)];exact h k k0 (by omega)
theorem Tt(l:List Pce)(n:Nat)(hn:l.length=n+1)(h:iw l (n+1)):Gn (swq oI l 0 n) n 0 0:=by
 have hs:=fun k=>yA l 0 n k (by omega) (by omega)
 refine⟨fun k k0 kn _ kp=>?_,fun h0=>by omega⟩;rw[hs,hs,if_neg (by omega),if_neg (by omega),if_neg (by omega),if_neg kp];exact h k k0 (by omega)
theorem Od(l:List Pce)(n:Nat)(h:iw l n):iw (l.take n) n:=fun k k0 kn=>by
 have hg:∀k,k<n->at3 (l.take n) k=at3 l k:=fun k hk=>by
  unfold at3;rw[List.getElem?_take,if_pos hk]
 rw[hg k kn,hg _ (by omega)];exact h k k0 kn
end Go.Proofs.YtaebnkeddcbmkaaGreat.Bm
namespace Go.Proofs.YtaebnkeddcbmkaaGreat
open Go.RowKit
section
variable {w:World} {base p g cap n c:Nat} {L:List Pce}
theorem qW(h:fu w base p g cap L)(i j:Nat)(hi:i<L.length)(hj:j<L.length) :
  Calls prog 232 #[.slice (some ⟨g,0,none⟩) L.length cap,.int .i64 (i:Int),.int .i64 (j:Int)] w fun e w'=>e=.returned (.bool (decide (lt3 (Bm.at3 L i) (Bm.at3 L j))))/\Below w.heap.size w w':=by
 obtain⟨post,_,hr⟩:=h.row;have h1:=nA (f:=pcT) (h:=pcW) (k:=pcO) hr i hi;have h2:=nA (f:=pcT) (h:=pcW) (k:=pcO) hr j hj;unfold Bm.at3;rw[List.getElem?_eq_getElem hi,List.getElem?_eq_getElem hj,Option.getD_some,Option.getD_some];exact OV g L.length cap i j L[i] L[j] w hi hj h1.2 h2.2
theorem qX(h:fu w base p g cap L)(i j:Nat)(hi:i<L.length)(hj:j<L.length) :
  Calls prog 235 #[.slice (some ⟨g,0,none⟩) L.length cap,.int .i64 (i:Int),.int .i64 (j:Int)] w fun e w'=>e=.returned (.tuple #[])/\fu w' base p g cap (swq oI L i j)/\bB base p g w w':=by
 obtain⟨post,hl,hr⟩:=h.row;refine(OX g cap i j L post w hi hj hr).mono ?_;rintro e w' ⟨he,h1,h2⟩;exact⟨he,h.same (oq _ _ _ _) h2 hl h1,bB.grown h2 hr.lt (.inr rfl) h.IW⟩
end
theorem qE:∀args w,(callFunc 232 args).run prog w=.ok (.enter 232 args) w:=enters_of func232 (by kernel_rfl) rfl
theorem qF:∀args w,(callFunc 235 args).run prog w=.ok (.enter 235 args) w:=enters_of func235 (by kernel_rfl) rfl
theorem Ie:∀args w,(callFunc 50 args).run prog w=.ok (.enter 50 args) w:=enters_of func50 (by kernel_rfl) rfl
theorem YX:∀args w,(callFunc 234 args).run prog w=.ok (.enter 234 args) w:=enters_of func234 (by kernel_rfl) rfl
theorem aeA:∀args w,(callFunc 233 args).run prog w=.ok (.enter 233 args) w:=enters_of func233 (by kernel_rfl) rfl
theorem ZA(base p g cap j:Nat)(L:List Pce)(w:World)(hb:base<=w.heap.size)(hL:L.length<=100000)(hj:j<L.length)(hp:fu w base p g cap L)(hu:UpQ L L.length j) :
  Calls prog 81 #[.iface 52 (.pointer (some ⟨p,0,none⟩)),.int .i64 (j:Int)] w fun e w'=>e=.returned (.tuple #[])/\∃L',L'.Perm L/\iw L' L'.length/\fu w' base p g cap L'/\bB base p g w w':=by
 obtain⟨n,hn⟩:∃n,n=L.length:=⟨_,rfl⟩;rw[<-hn]at hL hj hu;have Hn:=hid hn;have Hp:=hid hp;have Hu:=hid hu;clear hn hp hu;go_enter func81,ntmps81
 go_wp2;go_loopw [1] (fun jv wr=>∃(j:Nat) (L':List Pce),jv=.int .i64 (j:Int)/\j<n/\Hid (L'.Perm L)/\Hid (UpQ L' n j)/\Hid (fu wr base p g cap L')/\Hid (bB base p g w wr)) (fun jv _=>(intOf jv).toNat)
 case atStart=>exact⟨j,L,rfl,hj,hid (List.Perm.refl _),Hu,Hp,hid (bB.refl _ _ _ _)⟩
 case round=>
  obtain⟨j,L',rfl,hj,hperm,hup,hpl,hk⟩:=hrel;clear Hp Hu;have hlen:L'.length=n:=by rw[hperm.out.length_eq,Hn.out]
  have Hlen:=hid hlen;have c0:=hpl.out.cell;rw[hlen]at c0;clear hlen;by_cases h0:j=0
  ·subst h0;have hfin:∃L',L'.Perm L/\iw L' L'.length/\fu wr base p g cap L'/\bB base p g w wr:=⟨L',hperm.out,by rw[Hlen.out];exact abU _ _ hup.out,hpl.out,hk.out⟩;have Hf:=hid hfin;clear hfin;go_wp2;go_end0
   exact⟨rfl,Hf.out⟩
  ·have mL:=xS p n cap (some ⟨g,0,none⟩) wr c0;have eL:=qE;obtain⟨i,hi⟩:∃i,i=(j-1)/2:=⟨_,rfl⟩;have hq:((j-1:Nat):Int)/2=(i:Int):=by omega
   have hq2:((j:Int)-1)/2=(i:Int):=by omega
   have hij:i<j:=by omega
   have hl:=qW hpl.out j i (by rw[Hlen.out];exact hj) (by rw[Hlen.out];omega);rw[Hlen.out]at hl;have Hl:=hid hl;have Hi:=hid hi;clear hl hi;obtain⟨r,hr⟩:∃r,r=decide (lt3 (Bm.at3 L' j) (Bm.at3 L' i)):=⟨_,rfl⟩;rw[<-hr]at Hl;have Hr:=hid hr;clear hr;go_wp2_with fail
   refine Hl.out.mono ?_;rintro e w1 ⟨rfl,hb1⟩;clear hq hq2;have mq:=hpl.out.below hb1;have Hk1:=hid (hk.out.trans (bB.below hb1 (Nat.le_trans hb hk.out.bel.size)));have c1:=mq.cell;rw[Hlen.out]at c1;have Dm:=hid mq;clear hb1 mq mL eL c0 hk hpl Hl;cases r with
   | false=>
    have hlt:¬lt3 (Bm.at3 L' j) (Bm.at3 L' i):=by have:=Hr.out;simpa using this.symm
    rw[Hi.out]at hlt;have hfin:∃L',L'.Perm L/\iw L' L'.length/\fu w1 base p g cap L'/\bB base p g w w1:=⟨L',hperm.out,by rw[Hlen.out];exact agK _ _ _ hup.out hlt,Dm.out,Hk1.out⟩;have Hf:=hid hfin;clear hfin hlt;go_wp2;go_end0
    exact⟨rfl,Hf.out⟩
   | true=>
    have hlt:lt3 (Bm.at3 L' j) (Bm.at3 L' i):=by have:=Hr.out;simpa using this.symm
    have Hlt:=hid hlt;have mS:=xU p n cap (some ⟨g,0,none⟩) w1 c1;have eS:=qF;have hs:=qX Dm.out i j (by rw[Hlen.out];omega) (by rw[Hlen.out];exact hj);rw[Hlen.out]at hs;have Hs:=hid hs;clear hs hlt;go_wp2_with fail
    refine Hs.out.mono ?_;rintro e w2 ⟨rfl,pG,hk2⟩;have aju:UpQ (swq oI L' i j) n i:=by
     have h1:=abV L' n j (by rw[Hlen.out];exact Nat.le_refl _) hj (by omega) hup.out (by rw[<-Hi.out];exact Hlt.out);rw[<-Hi.out]at h1;exact h1
    have ald:=hid aju;have Ye:=hid pG;have Hk2:=hid (Hk1.out.trans hk2);have akR:=hid ((rG L' i j (by rw[Hlen.out];omega) (by rw[Hlen.out];exact hj)).trans hperm.out);clear aju pG hk2 mS eS Hs c1;go_wp2;go_roundw
    case rel=>exact⟨i,swq oI L' i j,rfl,by omega,akR,ald,Ye,Hk2⟩
    case measure=>simp[intOf];omega
def Kz(e:Ending):Prop:=∃b,e=.returned (.bool b)
theorem qo(b:Bool):Kz (.returned (.bool b)):=⟨b,rfl⟩
theorem zY(base p g cap n i0:Nat)(L:List Pce)(w:World)(hb:base<=w.heap.size)(hL:L.length<=100000)(hn:n<=L.length)(hi0:i0<=n)(hp:fu w base p g cap L)(hd:Gn L n i0 i0) :
  Calls prog 80 #[.iface 52 (.pointer (some ⟨p,0,none⟩)),.int .i64 (i0:Int),.int .i64 (n:Int)] w fun e w'=>Kz e/\∃L',L'.Perm L/\zf L' n i0/\(∀k,n<=k->Bm.at3 L' k=Bm.at3 L k)/\fu w' base p g cap L'/\bB base p g w w':=by
 obtain⟨nL,hnL⟩:∃nL,nL=L.length:=⟨_,rfl⟩;rw[<-hnL]at hL hn;have HnL:=hid hnL;have Hp:=hid hp;have Hd:=hid hd;clear hnL hp hd;go_enter func80,ntmps80
 go_wp2;go_loopw [7] (fun iv wr=>∃(i:Nat) (L':List Pce),iv=.int .i64 (i:Int)/\i0<=i/\i<=n/\Hid (L'.Perm L)/\Hid (∀k,n<=k->Bm.at3 L' k=Bm.at3 L k)/\Hid (Gn L' n i0 i)/\Hid (fu wr base p g cap L')/\Hid (bB base p g w wr)) (fun iv _=>n-(intOf iv).toNat)
 case atStart=>exact⟨i0,L,rfl,Nat.le_refl _,hi0,hid (List.Perm.refl _),hid (fun _ _=>rfl),Hd,Hp,hid (bB.refl _ _ _ _)⟩
 case round=>
  obtain⟨i,L',rfl,hii,hi,hperm,hsame,hdn,hpl,hk⟩:=hrel;clear Hp Hd;have hlen:L'.length=nL:=by rw[hperm.out.length_eq,HnL.out]
  have Hlen:=hid hlen;have c0:=hpl.out.cell;rw[hlen]at c0;clear hlen;by_cases h1:n<=2*i+1
  ·have hfin:∃L',L'.Perm L/\zf L' n i0/\(∀k,n<=k->Bm.at3 L' k=Bm.at3 L k)/\fu wr base p g cap L'/\bB base p g w wr:=⟨L',hperm.out,qD _ _ _ _ hdn.out (fun k k0 kn ki=>by omega),hsame.out,hpl.out,hk.out⟩;have Hf:=hid hfin;clear hfin;go_wp2;go_ret;exact⟨qo _,Hf.out⟩
  ·by_cases h2:n<=2*i+2
   ·have iA:Hid (∀k,0<k->k<n->(k-1)/2=i->¬lt3 (Bm.at3 L' k) (Bm.at3 L' (2*i+1))):=hid (fun k k0 kn ki=>by
     obtain rfl:k=2*i+1:=by omega
     rw[gT];omega)
    have mL2:=xS p nL cap (some ⟨g,0,none⟩) wr c0;have eL2:=qE;have hl2:=qW hpl.out (2*i+1) i (by rw[Hlen.out];omega) (by rw[Hlen.out];omega);rw[Hlen.out]at hl2;obtain⟨r2,hr2⟩:∃r2,r2=decide (lt3 (Bm.at3 L' (2*i+1)) (Bm.at3 L' i)):=⟨_,rfl⟩;rw[<-hr2]at hl2;have Hr2:=hid hr2;have Hl2:=hid hl2;clear hr2 hl2;have hcast:Value.int IntKind.i64 (((2*i+1:Nat)):Int)=.int .i64 (2*(i:Int)+1):=by go_num
    rw[hcast]at Hl2;clear hcast;go_wp2_with fail
    refine Hl2.out.mono ?_;rintro e w3 ⟨rfl,hb3⟩;have qI:=hpl.out.below hb3;have Hk3:=hid (hk.out.trans (bB.below hb3 (Nat.le_trans hb hk.out.bel.size)));have c3:=qI.cell;rw[Hlen.out]at c3;have Dw:=hid qI;clear hb3 qI mL2 eL2 c0 Hl2;cases r2 with
    | false=>
     have hlt:¬lt3 (Bm.at3 L' (2*i+1)) (Bm.at3 L' i):=by have:=Hr2.out;simpa using this.symm
     have hfin:∃L',L'.Perm L/\zf L' n i0/\(∀k,n<=k->Bm.at3 L' k=Bm.at3 L k)/\fu w3 base p g cap L'/\bB base p g w w3:=⟨L',hperm.out,qD _ _ _ _ hdn.out (fun k k0 kn ki=>by
      have h1:=iA.out k k0 kn ki;rw[gT]at h1 hlt ⊢;omega),hsame.out,Dw.out,Hk3.out⟩
     have Hf:=hid hfin;clear hfin hlt;go_wp2;go_ret;exact⟨qo _,Hf.out⟩
    | true=>
     have hlt:lt3 (Bm.at3 L' (2*i+1)) (Bm.at3 L' i):=by have:=Hr2.out;simpa using this.symm
     have Hlt:=hid hlt;have mS:=xU p nL cap (some ⟨g,0,none⟩) w3 c3;have eS:=qF;have hs:=qX Dw.out i (2*i+1) (by rw[Hlen.out];omega) (by rw[Hlen.out];omega);rw[Hlen.out]at hs;have Hs:=hid hs;clear hs hlt;go_wp2_with fail
     refine Hs.out.mono ?_;rintro e w4 ⟨rfl,zl,hk4⟩;have QV:=hid (sK L' n i0 i (2*i+1) (by rw[Hlen.out];omega) (by omega) (by omega) hii (by omega) hdn.out Hlt.out iA.out);have Rf:=hid zl;have Hk4:=hid (Hk3.out.trans hk4);have Rh:=hid ((rG L' i (2*i+1) (by rw[Hlen.out];omega) (by rw[Hlen.out];omega)).trans hperm.out);have Rj:Hid (∀k,n<=k->Bm.at3 (swq oI L' i (2*i+1)) k=Bm.at3 L k):=hid (fun k hk=>by
      rw[yA L' i (2*i+1) k (by rw[Hlen.out];omega) (by rw[Hlen.out];omega),if_neg (by omega),if_neg (by omega)];exact hsame.out k hk)
     clear zl hk4 mS eS Hs c3;go_wp2;go_roundw
     case rel=>exact⟨(2*i+1),swq oI L' i (2*i+1),by go_num,by omega,by omega,Rh,Rj,QV,Rf,Hk4⟩
     case measure=>simp[intOf];omega
   ·have mL:=xS p nL cap (some ⟨g,0,none⟩) wr c0;have eL:=qE;have hl:=qW hpl.out (2*i+2) (2*i+1) (by rw[Hlen.out];omega) (by rw[Hlen.out];omega);rw[Hlen.out]at hl;obtain⟨r,hr⟩:∃r,r=decide (lt3 (Bm.at3 L' (2*i+2)) (Bm.at3 L' (2*i+1))):=⟨_,rfl⟩;rw[<-hr]at hl;have Hr:=hid hr;rw[show((2*i+2:Nat):Int)=2*(i:Int)+1+1 by omega,show((2*i+1:Nat):Int)=2*(i:Int)+1 by omega]at hl;have Hl:=hid hl;clear hr hl;go_wp2_with fail
    refine Hl.out.mono ?_;rintro e w1 ⟨rfl,hb1⟩;have mq:=hpl.out.below hb1;have Hk1:=hid (hk.out.trans (bB.below hb1 (Nat.le_trans hb hk.out.bel.size)));have c1:=mq.cell;rw[Hlen.out]at c1;have Dm:=hid mq;clear hb1 mq mL eL c0 hk hpl Hl;cases r with
    | false=>
     have hlt:¬lt3 (Bm.at3 L' (2*i+2)) (Bm.at3 L' (2*i+1)):=by have:=Hr.out;simpa using this.symm
     have iA:Hid (∀k,0<k->k<n->(k-1)/2=i->¬lt3 (Bm.at3 L' k) (Bm.at3 L' (2*i+1))):=hid (fun k k0 kn ki=>by
      obtain rfl | rfl:k=2*i+1\/k=2*i+2:=by omega
      ·rw[gT];omega
      ·exact hlt)
     clear hlt;have mL2:=xS p nL cap (some ⟨g,0,none⟩) w1 c1;have eL2:=qE;have hl2:=qW Dm.out (2*i+1) i (by rw[Hlen.out];omega) (by rw[Hlen.out];omega);rw[Hlen.out]at hl2;obtain⟨r2,hr2⟩:∃r2,r2=decide (lt3 (Bm.at3 L' (2*i+1)) (Bm.at3 L' i)):=⟨_,rfl⟩;rw[<-hr2]at hl2;have Hr2:=hid hr2;have Hl2:=hid hl2;clear hr2 hl2;have hcast:Value.int IntKind.i64 (((2*i+1:Nat)):Int)=.int .i64 (2*(i:Int)+1):=by go_num
     rw[hcast]at Hl2;clear hcast;go_wp2_with fail
     refine Hl2.out.mono ?_;rintro e w3 ⟨rfl,hb3⟩;have qI:=Dm.out.below hb3;have Hk3:=hid (Hk1.out.trans (bB.below hb3 (Nat.le_trans hb Hk1.out.bel.size)));have c3:=qI.cell;rw[Hlen.out]at c3;have Dw:=hid qI;clear hb3 qI mL2 eL2 c1 Hl2;cases r2 with
     | false=>
      have hlt:¬lt3 (Bm.at3 L' (2*i+1)) (Bm.at3 L' i):=by have:=Hr2.out;simpa using this.symm
      have hfin:∃L',L'.Perm L/\zf L' n i0/\(∀k,n<=k->Bm.at3 L' k=Bm.at3 L k)/\fu w3 base p g cap L'/\bB base p g w w3:=⟨L',hperm.out,qD _ _ _ _ hdn.out (fun k k0 kn ki=>by
       have h1:=iA.out k k0 kn ki;rw[gT]at h1 hlt ⊢;omega),hsame.out,Dw.out,Hk3.out⟩
      have Hf:=hid hfin;clear hfin hlt;go_wp2;go_ret;exact⟨qo _,Hf.out⟩
     | true=>
      have hlt:lt3 (Bm.at3 L' (2*i+1)) (Bm.at3 L' i):=by have:=Hr2.out;simpa using this.symm
      have Hlt:=hid hlt;have mS:=xU p nL cap (some ⟨g,0,none⟩) w3 c3;have eS:=qF;have hs:=qX Dw.out i (2*i+1) (by rw[Hlen.out];omega) (by rw[Hlen.out];omega);rw[Hlen.out]at hs;have Hs:=hid hs;clear hs hlt;go_wp2_with fail
      refine Hs.out.mono ?_;rintro e w4 ⟨rfl,zl,hk4⟩;have QV:=hid (sK L' n i0 i (2*i+1) (by rw[Hlen.out];omega) (by omega) (by omega) hii (by omega) hdn.out Hlt.out iA.out);have Rf:=hid zl;have Hk4:=hid (Hk3.out.trans hk4);have Rh:=hid ((rG L' i (2*i+1) (by rw[Hlen.out];omega) (by rw[Hlen.out];omega)).trans hperm.out);have Rj:Hid (∀k,n<=k->Bm.at3 (swq oI L' i (2*i+1)) k=Bm.at3 L k):=hid (fun k hk=>by
       rw[yA L' i (2*i+1) k (by rw[Hlen.out];omega) (by rw[Hlen.out];omega),if_neg (by omega),if_neg (by omega)];exact hsame.out k hk)
      clear zl hk4 mS eS Hs c3;go_wp2;go_roundw
      case rel=>exact⟨(2*i+1),swq oI L' i (2*i+1),by go_num,by omega,by omega,Rh,Rj,QV,Rf,Hk4⟩
      case measure=>simp[intOf];omega
    | true=>
     have hlt:lt3 (Bm.at3 L' (2*i+2)) (Bm.at3 L' (2*i+1)):=by have:=Hr.out;simpa using this.symm
     have iA:Hid (∀k,0<k->k<n->(k-1)/2=i->¬lt3 (Bm.at3 L' k) (Bm.at3 L' (2*i+2))):=hid (fun k k0 kn ki=>by
      obtain rfl | rfl:k=2*i+1\/k=2*i+2:=by omega
      ·rw[gT]at hlt ⊢;omega
      ·rw[gT];omega)
     clear hlt;have mL2:=xS p nL cap (some ⟨g,0,none⟩) w1 c1;have eL2:=qE;have hl2:=qW Dm.out (2*i+2) i (by rw[Hlen.out];omega) (by rw[Hlen.out];omega);rw[Hlen.out]at hl2;obtain⟨r2,hr2⟩:∃r2,r2=decide (lt3 (Bm.at3 L' (2*i+2)) (Bm.at3 L' i)):=⟨_,rfl⟩;rw[<-hr2]at hl2;have Hr2:=hid hr2;have Hl2:=hid hl2;clear hr2 hl2;have hcast:Value.int IntKind.i64 (((2*i+2:Nat)):Int)=.int .i64 (2*(i:Int)+1+1):=by go_num
     rw[hcast]at Hl2;clear hcast;go_wp2_with fail
     refine Hl2.out.mono ?_;rintro e w3 ⟨rfl,hb3⟩;have qI:=Dm.out.below hb3;have Hk3:=hid (Hk1.out.trans (bB.below hb3 (Nat.le_trans hb Hk1.out.bel.size)));have c3:=qI.cell;rw[Hlen.out]at c3;have Dw:=hid qI;clear hb3 qI mL2 eL2 c1 Hl2;cases r2 with
     | false=>
      have hlt:¬lt3 (Bm.at3 L' (2*i+2)) (Bm.at3 L' i):=by have:=Hr2.out;simpa using this.symm
      have hfin:∃L',L'.Perm L/\zf L' n i0/\(∀k,n<=k->Bm.at3 L' k=Bm.at3 L k)/\fu w3 base p g cap L'/\bB base p g w w3:=⟨L',hperm.out,qD _ _ _ _ hdn.out (fun k k0 kn ki=>by
       have h1:=iA.out k k0 kn ki;rw[gT]at h1 hlt ⊢;omega),hsame.out,Dw.out,Hk3.out⟩
      have Hf:=hid hfin;clear hfin hlt;go_wp2;go_ret;exact⟨qo _,Hf.out⟩
     | true=>
      have hlt:lt3 (Bm.at3 L' (2*i+2)) (Bm.at3 L' i):=by have:=Hr2.out;simpa using this.symm
      have Hlt:=hid hlt;have mS:=xU p nL cap (some ⟨g,0,none⟩) w3 c3;have eS:=qF;have hs:=qX Dw.out i (2*i+2) (by rw[Hlen.out];omega) (by rw[Hlen.out];omega);rw[Hlen.out]at hs;have Hs:=hid hs;clear hs hlt;go_wp2_with fail
      refine Hs.out.mono ?_;rintro e w4 ⟨rfl,zl,hk4⟩;have QV:=hid (sK L' n i0 i (2*i+2) (by rw[Hlen.out];omega) (by omega) (by omega) hii (by omega) hdn.out Hlt.out iA.out);have Rf:=hid zl;have Hk4:=hid (Hk3.out.trans hk4);have Rh:=hid ((rG L' i (2*i+2) (by rw[Hlen.out];omega) (by rw[Hlen.out];omega)).trans hperm.out);have Rj:Hid (∀k,n<=k->Bm.at3 (swq oI L' i (2*i+2)) k=Bm.at3 L k):=hid (fun k hk=>by
       rw[yA L' i (2*i+2) k (by rw[Hlen.out];omega) (by rw[Hlen.out];omega),if_neg (by omega),if_neg (by omega)];exact hsame.out k hk)
      clear zl hk4 mS eS Hs c3;go_wp2;go_roundw
      case rel=>exact⟨(2*i+2),swq oI L' i (2*i+2),by go_num,by omega,by omega,Rh,Rj,QV,Rf,Hk4⟩
      case measure=>simp[intOf];omega
theorem bB.Xi{base p g g1:Nat}{w w1 w2:World}(h:bB base p g w w1)(hg:g1=g\/w.heap.size<=g1)(h2:bB base p g1 w1 w2):bB base p g w w2:=
 ⟨h.bel.trans h2.bel,fun b hb hp hne=>(h2.blk b (Nat.lt_of_lt_of_le hb h.bel.size) hp (fun e=>by rcases hg with hg | hg<;>omega)).trans (h.blk b hb hp hne)⟩
theorem Oq(base p g cap a q:Nat)(tx:ByteArray)(L:List Pce)(w:World)(hb:base<=w.heap.size)(hL:L.length<100000)(hh:iw L L.length)(hpl:fu w base p g cap L) :
  Calls prog 52 #[.iface 52 (.pointer (some ⟨p,0,none⟩)),.iface 55 (.agg #[.string tx,.int .i64 (a:Int),.int .i64 (q:Int)])] w fun e w'=>e=.returned (.tuple #[])/\∃L' g' cap',L'.Perm ((tx,a,q) :: L)/\iw L' L'.length/\fu w' base p g' cap' L'/\bB base p g w w'/\(g'=g\/w.heap.size<=g'):=by
 have sG:=hid (OW base p g cap a q tx L w hb (by omega) hpl);have Hh:=hid hh;clear hh hpl;have mP:=afW p w;have eP:=YX;go_enter func52,ntmps52
 go_wp2_with fail
 refine sG.out.mono ?_;rintro e w1 ⟨rfl,g1,Sg,anq,mq,hk1⟩;have ams:=hid anq;clear anq;have hlen:(L++[(tx,a,q)]).length=L.length+1:=by simp
 have c1:=mq.cell;rw[hlen]at c1;have hup:=ZA base p g1 Sg L.length (L++[(tx,a,q)]) w1 (Nat.le_trans hb hk1.bel.size) (by omega) (by omega) mq (by rw[hlen];exact Oc L (tx,a,q) Hh.out);have Hup:=hid hup;have Hk1:=hid hk1;have Dm:=hid mq;have mN:=Vq p (L.length+1) Sg (some ⟨g1,0,none⟩) w1 c1;have eN:=Ie;have Hlen:Hid (∀W,Calls prog 50 #[.slice (some ⟨g1,0,none⟩) (L.length+1) Sg] W fun e w'=>e=.returned (.int .i64 ((L.length:Int)+1))/\W=w'):=hid (fun W=>by
  have h1:=qV (some ⟨g1,0,none⟩) (L.length+1) Sg W;rw[Int.natCast_add]at h1;exact h1)
 clear hup hk1 mq hlen mP eP sG Hh;go_wp2_with fail
 refine(Hlen.out _).mono ?_;rintro e w2 ⟨rfl,rfl⟩;clear mN eN c1 Hlen;go_wp2_with fail
 refine Hup.out.mono ?_;rintro e w2 ⟨rfl,L',hpm,hhp,pG,hk2⟩;have hfin:∃L' g' cap',L'.Perm ((tx,a,q) :: L)/\iw L' L'.length/\fu w2 base p g' cap' L'/\bB base p g w w2/\(g'=g\/w.heap.size<=g'):=⟨L',g1,Sg,hpm.trans (List.perm_append_singleton _ _),hhp,pG,Hk1.out.Xi ams.out hk2,ams.out⟩;have Hf:=hid hfin;clear hfin hpm hhp pG hk2 Hup;go_wp2;go_end0
 exact⟨rfl,Hf.out⟩
def akj(w w':World)(base p g cap:Nat)(L:List Pce)(x:Pce):Prop:=∃L',L.Perm (x :: L')/\(∀y∈L',¬lt3 y x)/\iw L' L'.length/\fu w' base p g cap L'/\bB base p g w w'
def pcV(x:Pce):Value:=.agg #[.string x.1,.int .i64 (x.2.1:Int),.int .i64 (x.2.2:Int)]
theorem aaD{w w':World}{base p g cap n:Nat}{L L2:List Pce}(hn:L.length=n+1)(hh:iw L L.length)(hpm:L2.Perm (swq oI L 0 n))(hh2:iw L2 n)(hat:∀k,n<=k->Bm.at3 L2 k=Bm.at3 (swq oI L 0 n) k)(hpl:fu w' base p g cap (L2.take n))(hk:bB base p g w w') :
  L2[n]?.getD oI=Bm.at3 L 0/\akj w w' base p g cap L (Bm.at3 L 0):=by
 have Lf:=hpm.trans (rG L 0 n (by omega) (by omega));have hl2:L2.length=n+1:=by rw[Lf.length_eq,hn]
 have he:Bm.at3 L2 n=Bm.at3 L 0:=by
  rw[hat n (Nat.le_refl _),yA L 0 n n (by omega) (by omega),if_pos rfl]
 have hL2:L2=L2.take n++[Bm.at3 L 0]:=by
  rw[<-he];unfold Bm.at3;rw[List.getElem?_eq_getElem (by omega),Option.getD_some,<-List.take_succ_eq_append_getElem (by omega),List.take_of_length_le (by omega)]
 have hperm:L.Perm (Bm.at3 L 0 :: L2.take n):=Lf.symm.trans (by
  conv=>lhs;rw[hL2]
  exact List.perm_append_singleton _ _)
 refine⟨he,L2.take n,hperm,fun y hy=>?_,?_,hpl,hk⟩
 ·have hy2:y∈L:=hperm.mem_iff.2 (List.mem_cons_of_mem _ hy);obtain⟨k,hk,rfl⟩:=List.mem_iff_getElem.1 hy2;have h1:=Iq L L.length hh k hk;unfold Bm.at3 at h1;rw[List.getElem?_eq_getElem hk,Option.getD_some]at h1;exact h1
 ·rw[List.length_take,Nat.min_eq_left (by omega)];exact Od L2 n hh2
theorem TI(base p g cap n:Nat)(L:List Pce)(w:World)(hb:base<=w.heap.size)(hL:L.length<=100000)(hn:L.length=n+1)(hh:iw L L.length)(hpl:fu w base p g cap L) :
  Calls prog 51 #[.iface 52 (.pointer (some ⟨p,0,none⟩))] w fun e w'=>e=.returned (.iface 55 (pcV (Bm.at3 L 0)))/\akj w w' base p g cap L (Bm.at3 L 0):=by
 have hn1:n<=100000:=by omega
 have Hh:=hid hh;have c0:=hpl.cell;rw[hn]at c0;have Hsw:=qX hpl 0 n (by omega) (by omega);rw[hn]at Hsw;have Hs:=hid Hsw;have Hlen:Hid (∀W,Calls prog 50 #[.slice (some ⟨g,0,none⟩) (n+1) cap] W fun e w'=>e=.returned (.int .i64 ((n:Int)+1))/\W=w'):=hid (fun W=>by
  have h1:=qV (some ⟨g,0,none⟩) (n+1) cap W;rw[Int.natCast_add]at h1;exact h1)
 have HL:=hid hL;have Hn:=hid hn;have mN:=Vq p (n+1) cap (some ⟨g,0,none⟩) w c0;have eN:=Ie;have mS:=xU p (n+1) cap (some ⟨g,0,none⟩) w c0;have eS:=qF;obtain⟨x,hx⟩:∃x,x=Bm.at3 L 0:=⟨_,rfl⟩;obtain⟨v,hv⟩:∃v,v=pcV x:=⟨_,rfl⟩;rw[<-hx,<-hv];have Hx:=hid hx;have Hv:=hid hv;clear hh hpl Hsw hn hL hx hv c0;go_enter func51,ntmps51
 go_wp2_with fail
 refine(Hlen.out _).mono ?_;rintro e w2 ⟨rfl,rfl⟩;clear mN eN Hlen;go_wp2_with fail
 refine Hs.out.mono ?_;rintro e w1 ⟨rfl,mq,hk1⟩;have hb1:=Nat.le_trans hb hk1.bel.size;have hdn:=(zY base p g cap n 0 (swq oI L 0 n) w1 hb1 (by rw[oq];exact HL.out) (by rw[oq,Hn.out];omega) (Nat.zero_le _) mq (Tt L n Hn.out (by have h1:=Hh.out;rw[Hn.out]at h1;exact h1)));rw[show((0:Nat):Int)=0 from rfl]at hdn;have Hdn:=hid hdn;clear hdn;have Hk1:=hid hk1;clear mq hk1 mS eS Hs;go_wp2_with fail
 refine Hdn.out.mono ?_;rintro e w2 ⟨hbe,L2,hpm,hh2,hat,pG,hk2⟩;obtain⟨b0,rfl⟩:=hbe;have hl2:L2.length=n+1:=by rw[hpm.length_eq,oq,Hn.out]
 have QA:=hid (Vh base p g cap n L2 w2 (Nat.le_trans hb1 hk2.bel.size) (by have:=HL.out;have:=Hn.out;omega) hl2 pG);have Hk2:=hid (Hk1.out.trans hk2);have Hpm:=hid hpm;have Hh2:=hid (zV hh2);have Hat:=hid hat;clear hpm hh2 hat pG hk2 hl2 Hdn Hk1 hb1;have mP:=ajF p w2;have eP:=aeA;go_wp2_with fail
 refine QA.out.mono ?_;rintro e w3 ⟨rfl,qI,hk3⟩;obtain⟨he,hfin⟩:=aaD Hn.out Hh.out Hpm.out Hh2.out Hat.out qI (Hk2.out.trans hk3);have Hf:Hid (akj w w3 base p g cap L x):=hid (by rw[Hx.out];exact hfin);have Hr:Hid (Value.iface 55 (.agg #[pcT (L2[n]?.getD oI),pcW (L2[n]?.getD oI),pcO (L2[n]?.getD oI)])=.iface 55 v):=hid (by rw[he,Hv.out,Hx.out];rfl);rw[Hr.out];clear he hfin qI hk3 QA Hr mP eP;go_wp2;go_ret;exact⟨rfl,Hf.out⟩
theorem fu.Uc{w w':World}{base p g cap:Nat}{L:List Pce}(h:fu w base p g cap L)(hp:w'.heap[p]?=w.heap[p]?)(hg:w'.heap[g]?=w.heap[g]?):fu w' base p g cap L:=by
 obtain⟨post,h1,hr⟩:=h.row;exact⟨h.IX,h.IW,h.fits,h.most,h.var.keep hp,post,h1,hr.keep hg⟩
theorem Oo(base p g cap:Nat)(L:List Pce)(w:World)(hb:base<=w.heap.size)(hL:L.length<=100000)(hpl:fu w base p g cap L) :
  Calls prog 49 #[.iface 52 (.pointer (some ⟨p,0,none⟩))] w fun e w'=>e=.returned (.tuple #[])/\∃L',L'.Perm L/\iw L' L'.length/\fu w' base p g cap L'/\bB base p g w w':=by
 obtain⟨n,hn⟩:∃n,n=L.length:=⟨_,rfl⟩;have c0:=hpl.cell;rw[<-hn]at c0 hL;obtain⟨m,hm⟩:∃m,m=n/2:=⟨_,rfl⟩;have hq:(n:Int)/2=(m:Int):=by omega
 have hml:m<=100000:=by omega
 have hmn:m<=n:=by omega
 have Hn:=hid hn;have Hm:=hid hm;have Hpl:=hid hpl;have HL:=hid hL;have mN:=Vq p n cap (some ⟨g,0,none⟩) w c0;have eN:=Ie;have Hlen:Hid (∀W,Calls prog 50 #[.slice (some ⟨g,0,none⟩) n cap] W fun e w'=>e=.returned (.int .i64 (n:Int))/\W=w'):=hid (fun W=>qV (some ⟨g,0,none⟩) n cap W);clear hn hm hpl c0;go_enter func49,ntmps49
 go_wp2_with fail
 refine(Hlen.out _).mono ?_;rintro e w2 ⟨rfl,rfl⟩;clear mN eN Hlen;go_wp2;clear hq;go_loopw [3] (fun jv wr=>∃(j:Nat) (L':List Pce),jv=.int .i64 ((j:Int)-1)/\j<=m/\Hid (L'.Perm L)/\Hid (zf L' n j)/\Hid (fu wr base p g cap L')/\Hid (bB base p g w wr)) (fun jv _=>(intOf jv+1).toNat)
 case atStart=>exact⟨m,L,rfl,Nat.le_refl _,hid (List.Perm.refl _),hid (by rw[Hm.out];exact Ip _ _),Hpl,hid (bB.refl _ _ _ _)⟩
 case round=>
  obtain⟨j,L',rfl,hj,hperm,hup,hpl,hk⟩:=hrel;clear Hpl;by_cases h0:j=0
  ·subst h0;have hfin:∃L',L'.Perm L/\iw L' L'.length/\fu wr base p g cap L'/\bB base p g w wr:=⟨L',hperm.out,by rw[hperm.out.length_eq,<-Hn.out];exact zV hup.out,hpl.out,hk.out⟩;have Hf:=hid hfin;clear hfin;go_wp2;go_end0
   exact⟨rfl,Hf.out⟩
  ·obtain⟨k,rfl⟩:∃k,j=k+1:=⟨j-1,by omega⟩;have hkm:k<m:=by omega
   have hkk:((k+1:Nat):Int)-1=(k:Int):=by omega
   rw[hkk];clear hkk;have Hdn:=hid (zY base p g cap n k L' wr (Nat.le_trans hb hk.out.bel.size) (by rw[hperm.out.length_eq,<-Hn.out];exact HL.out) (by rw[hperm.out.length_eq,<-Hn.out];exact Nat.le_refl _) (by omega) hpl.out (Ob hup.out));go_wp2_with fail
   refine Hdn.out.mono ?_;rintro e w3 ⟨hbe,L2,hpm,hh2,hat,pG,hk2⟩;obtain⟨b0,rfl⟩:=hbe;have Hpm:=hid (hpm.trans hperm.out);have Hh2:=hid hh2;have Ye:=hid pG;have Hk2:=hid (hk.out.trans hk2);clear hpm hh2 hat pG hk2 Hdn;go_wp2;go_roundw
   case rel=>exact⟨k,L2,rfl,by omega,Hpm,Hh2,Ye,Hk2⟩
   case measure=>simp[intOf]
namespace Bm
def ql(C:List ByteArray)(v:ByteArray->Nat)(L:List Pce):Prop:=
 (∀x∈L,C[x.2.2]?=some x.1/\0<x.2.1/\v x.1<=x.2.1)/\(∀j t,C[j]?=some t->0<v t->∃x∈L,x.2.2=j)
section
variable {C:List ByteArray} {v v':ByteArray->Nat} {L L':List Pce} {x:Pce}
theorem wW(hp:L'.Perm L)(h:ql C v L):ql C v L':=
 ⟨fun y hy=>h.1 y (hp.mem_iff.1 hy),fun j t hj hv=>by
  obtain⟨y,hy,e⟩:=h.2 j t hj hv;exact⟨y,hp.mem_iff.2 hy,e⟩⟩
theorem EC(h:ql C v (x :: L))(h0:v x.1=0):ql C v L:=
 ⟨fun y hy=>h.1 y (List.mem_cons_of_mem _ hy),fun j t hj hv=>by
  obtain⟨y,hy,e⟩:=h.2 j t hj hv;rcases List.mem_cons.1 hy with rfl | hy
  ·have h1:=(h.1 y List.mem_cons_self).1;rw[e,hj]at h1;injection h1 with h1
   subst h1;omega
  ·exact⟨y,hy,e⟩⟩
theorem Zw(h:ql C v (x :: L))(h0:0<v x.1):ql C v ((x.1,v x.1,x.2.2) :: L):=
 ⟨fun y hy=>by
  rcases List.mem_cons.1 hy with rfl | hy
  ·exact⟨(h.1 x List.mem_cons_self).1,h0,Nat.le_refl _⟩
  ·exact h.1 y (List.mem_cons_of_mem _ hy),fun j t hj hv=>by
  obtain⟨y,hy,e⟩:=h.2 j t hj hv;rcases List.mem_cons.1 hy with rfl | hy
  ·exact⟨_,List.mem_cons_self,e⟩
  ·exact⟨y,List.mem_cons_of_mem _ hy,e⟩⟩
theorem Og(h:ql C v (x :: L))(hl:∀y∈L,¬lt3 y x)(he:v x.1=x.2.1):scan v C (⟨#[]⟩,0)=(x.1,v x.1):=by
 obtain⟨h1,h2,h3⟩:=h.1 x List.mem_cons_self;obtain⟨hj,hx⟩:=List.getElem?_eq_some_iff.1 h1;have hC:C=C.take x.2.2++x.1 :: C.drop (x.2.2+1):=by
  rw[<-hx,<-List.drop_eq_getElem_cons hj,List.take_append_drop]
 have key:∀k t,C[k]?=some t->v t<=v x.1/\(k<x.2.2->v t<v x.1):=fun k t hk=>by
  rcases Nat.eq_zero_or_pos (v t)with h0 | h0
  ·omega
  ·obtain⟨y,hy,e⟩:=h.2 k t hk h0;have hy1:=h.1 y hy;rw[e,hk]at hy1;obtain⟨hy1,hy2,hy3⟩:=hy1;injection hy1 with hy1
   subst hy1;rcases List.mem_cons.1 hy with rfl | hy
   ·exact⟨Nat.le_refl _,fun hlt=>by omega⟩
   ·have hnl:=hl y hy;unfold lt3 at hnl;constructor
    ·omega
    ·intro hlt;omega
 rw[hC];refine Wh v x.1 _ (fun t ht=>?_) _ _ (fun t ht=>?_) (by show 0<v x.1;omega)
 ·obtain⟨k,hk,e⟩:=List.mem_iff_getElem.1 ht;rw[List.length_drop]at hk;rw[List.getElem_drop]at e;exact(key (x.2.2+1+k) t (by rw[List.getElem?_eq_getElem (by omega),e])).1
 ·obtain⟨k,hk,e⟩:=List.mem_iff_getElem.1 ht;rw[List.length_take]at hk;rw[List.getElem_take]at e;exact(key k t (by rw[List.getElem?_eq_getElem (by omega),e])).2 (by omega)
theorem Tx(h:ql C v []):scan v C (⟨#[]⟩,0)=(⟨#[]⟩,0):=CJ v C _ (fun t ht=>by
 obtain⟨j,hj,e⟩:=List.mem_iff_getElem.1 ht;rcases Nat.eq_zero_or_pos (v t)with h0 | h0
 ·rw[h0];exact Nat.le_refl _
 ·obtain⟨y,hy,_⟩:=h.2 j t (by rw[List.getElem?_eq_getElem hj,e]) h0;simp at hy)
theorem Oi(h:ql C v (x :: L))(hle:∀t,v' t<=v t)(h0:v' x.1=0):ql C v' L:=
 EC (x:=x) ⟨fun y hy=>⟨(h.1 y hy).1,(h.1 y hy).2.1,Nat.le_trans (hle _) (h.1 y hy).2.2⟩,fun j t hj hv=>h.2 j t hj (Nat.lt_of_lt_of_le hv (hle t))⟩ h0
theorem Oh(v:ByteArray->Nat):ql [] v []:=⟨fun y hy=>by simp at hy,fun j t hj=>by simp at hj⟩
theorem TA(h:ql C v L)(t:ByteArray)(h0:0<v t):ql (C++[t]) v (L++[(t,v t,C.length)]):=by
 refine⟨fun y hy=>?_,fun j u hj hv=>?_⟩
 ·rcases List.mem_append.1 hy with hy | hy
  ·obtain⟨h1,h2⟩:=h.1 y hy;obtain⟨hl,_⟩:=List.getElem?_eq_some_iff.1 h1;exact⟨by rw[List.getElem?_append_left hl];exact h1,h2⟩
  ·rw[List.mem_singleton]at hy;subst hy;exact⟨by simp,h0,Nat.le_refl _⟩
 ·rcases Nat.lt_or_ge j C.length with hl | hl
  ·rw[List.getElem?_append_left hl]at hj;obtain⟨y,hy,e⟩:=h.2 j u hj hv;exact⟨y,List.mem_append_left _ hy,e⟩
  ·rw[List.getElem?_append_right hl]at hj;have:j=C.length:=by
    rcases Nat.eq_or_lt_of_le hl with e | e
    ·exact e.symm
    ·rw[List.getElem?_eq_none (by simp;omega)]at hj;cases hj
   exact⟨_,List.mem_append_right _ (List.mem_singleton.2 rfl),this.symm⟩
theorem Tz(h:ql C v L)(t:ByteArray)(h0:v t=0):ql (C++[t]) v L:=by
 refine⟨fun y hy=>?_,fun j u hj hv=>?_⟩
 ·obtain⟨h1,h2⟩:=h.1 y hy;obtain⟨hl,_⟩:=List.getElem?_eq_some_iff.1 h1;exact⟨by rw[List.getElem?_append_left hl];exact h1,h2⟩
 ·rcases Nat.lt_or_ge j C.length with hl | hl
  ·rw[List.getElem?_append_left hl]at hj;exact h.2 j u hj hv
  ·rw[List.getElem?_append_right hl]at hj;rcases Nat.eq_or_lt_of_le hl with e | e
   ·rw[<-e]at hj;simp at hj;subst hj;omega
   ·rw[List.getElem?_eq_none (by simp;omega)]at hj;cases hj
end
end Bm
def Zy(xs:List Value):Nat:=(xs.map fun v=>(intOf v).toNat+1).sum
def ahk(w:World)(p:Nat):Nat:=match w.heap[p]? with
 | some (Obj.cells cs _ _)=>(match cs[0]? with
  | some (Value.slice (some a) n _)=>(match w.heap[a.block]? with
   | some (Obj.cells rs _ _)=>Zy (rs.toList.take (n*3))
   | _=>0)
  | _=>0)
 | _=>0
theorem Cb{w:World}{base p g cap:Nat}{L:List Pce}(h:fu w base p g cap L):ahk w p=Zy (p3 L):=by
 obtain⟨post,_,hr⟩:=h.row;have hv:=h.var;unfold Row at hr hv;have hl:(p3 L).length=L.length*3:=iV L;unfold ahk;rw[hv];simp only[List.getElem?_toArray,List.getElem?_cons_zero];rw[hr];simp only[];rw[<-hl,List.take_left]
theorem Ca(L:List Pce):Zy (p3 L)=(L.map fun x:Pce=>x.2.1+x.2.2+3).sum:=by
 unfold Zy p3;induction L with
 | nil=>rfl
 | cons x L ih=>
  have e1:intOf (pcT x)=0:=rfl;have e2:intOf (pcW x)=(x.2.1:Int):=rfl;have e3:intOf (pcO x)=(x.2.2:Int):=rfl;rw[cc3,List.map_cons,List.map_cons,List.map_cons,List.sum_cons,List.sum_cons,List.sum_cons,ih,List.map_cons,List.sum_cons,e1,e2,e3];omega
theorem Ld{L L':List Pce}(h:L.Perm L'):Zy (p3 L)=Zy (p3 L'):=by
 rw[Ca,Ca];exact(h.map _).sum_nat
theorem Lc(x:Pce)(L:List Pce):Zy (p3 (x :: L))=x.2.1+x.2.2+3+Zy (p3 L):=by
 rw[Ca,Ca];simp
theorem yO(l:List Nat):jG (l.map fun n:Nat=>(n:Int))↔bC l:=by
 have e:(l.map fun n:Nat=>(n:Int)).map Int.toNat=l:=by
  rw[List.map_map];conv=>rhs;rw[<-List.map_id l]
  exact List.map_congr_left fun x _=>by simp
 unfold jG;rw[e];constructor
 ·exact fun h=>h.2
 ·intro h;refine⟨⟨by rw[List.length_map];exact h.1,fun x hx=>?_⟩,h⟩;obtain⟨n,hn,rfl⟩:=List.mem_map.1 hx;have:=h.2.1 n hn;omega
def aik:Prop:=∀(w:World) (A:Option Addr) (c:Nat) (l:List Int),l.length<=1000000000->l.length<=c->(∀x∈l,bO x)->Reads w A (mH l) ->
 Calls prog 101 #[.slice A l.length c] w fun e w'=>e=.returned (ajP (if jG l then some (bR (aI (l.map Int.toNat)))else none))/\Below w.heap.size w w'
def Yk(w':World)(b:Nat)(bs:List Nat)(e:Ending):Option (List Nat×Nat)->Prop
 | none=>∃A c,e=.returned (.tuple #[.slice A 0 c,.bool false])
 | some t=>∃A c,e=.returned (.tuple #[.slice A t.1.length c,.bool true])/\Reads w' A (aM t.1)/\CR w' b (some (bs.drop t.2))
def adY:Prop:=∀(w:World) (b:Nat) (bs:List Nat),bs.length<=10000->(∀x∈bs,x<256)->CR w b (some bs) ->
 Calls prog 129 #[.pointer (some ⟨b,0,none⟩)] w fun e w'=>Yk w' b bs e (jl bs)/\w.grownBy w' (some b)
theorem zU(A:Option Addr)(c:Nat)(l:List Int)(w:World)(hl:l.length<=1000000000)(hr:Reads w A (mH l))(hW:jG l) :
  Calls prog 127 #[.slice A l.length c] w fun e w'=>∃g,e=.returned (.tuple #[.slice (some ⟨g,0,none⟩) l.length l.length,.bool true])/\Reads w' (some ⟨g,0,none⟩) (aM (iZ (l.map Int.toNat)))/\w.heap.size<=g/\Below w.heap.size w w':=by
 have h:=uq A c l w (by omega) hr;rw[decide_eq_true hW]at h;obtain⟨e,h11,hln⟩:=Cc l hW.1;have hkr:krN (l.map Int.toNat)<=2048:=by have:=hW.2.2.2;omega
 have h1:=Qh A c (l.map Int.toNat) w (by have:=hW.1.1;omega) h11 hkr (by rw[<-bJ,<-e];exact hr) (by rw[hln];exact h);rw[hln]at h1;exact h1.mono fun e w' ⟨g,h1,h2,h3,h4⟩=>⟨g,h1,bP h2,h3,h4⟩
namespace Bm
theorem aey(l cb:List Nat)(h:∀x∈cb,x<2):dW l+dW cb%2^cb.length*2^l.length=dW (l++cb):=by
 rw[mV,Nat.mod_eq_of_lt (vF cb h)]
theorem SI(l:List Nat):bytesOf (dW l) ((l.length+7)/8)=pO l:=rfl
end Bm
theorem ZP(A B:Option Addr)(c d:Nat)(ls bs:List Nat)(w:World)(hW:bC ls)(hbl:bs.length<=10000)(hlt:∀x∈bs,x<256)(hr:Reads w A (aM ls))(hs:Reads w B (u8s bs))
  (hcd:Calls prog 127 #[.slice A ls.length c] w fun e w'=>∃g,e=.returned (.tuple #[.slice (some ⟨g,0,none⟩) ls.length ls.length,.bool true])/\Reads w' (some ⟨g,0,none⟩) (aM (iZ ls))/\w.heap.size<=g/\Below w.heap.size w w') :
  Calls prog 102 #[.slice A ls.length c,.slice B bs.length d] w fun e w'=>e=.returned (ajP (QB ls bs))/\Below w.heap.size w w':=by
 obtain⟨res,hres⟩:∃r,r=QB ls bs:=⟨_,rfl⟩;rw[<-hres];have dV:=hid hres;have HW:=hid hW;have BX:=hW.1;have Hlt:=hid hlt;have Hr:=hid hr;have Hs:=hid hs;have Hcd:=hid hcd;have Hno:Hid (∀k,k<bs.length->ls[bs[k]?.getD 0]?.getD 0=0->res=none):=hid (fun k hk h0=>by
  rw[hres];unfold QB;rw[List.getElem?_eq_getElem hk,Option.getD_some]at h0;rw[Ej ls bs[k] h0 bs (List.getElem_mem hk)];rfl)
 have Bl:Hid (∀(W:World) (b N n v m:Nat),n<=1000000000->v<4294967296->m<=32->WS W b 0 N n->Calls prog 93 #[.pointer (some ⟨b,0,none⟩),.int .u32 (v:Int),.int .i64 (m:Int)] W fun e w'=>e=.returned (.bool true)/\WS w' b 0 (N+v%2^m*2^n) (n+m)/\W.grownBy w' (some b)):=hid (fun W b N n v m h1 h2 h3 h4=>qY b 0 N n v m W h1 h2 h3 h4);have Hfl:=hid (fun n c W h1 h2=>Uq n c W h1 h2);clear hres hW hlt hr hs hcd;go_enter func102,ntmps102
 go_wp2_with fail
 refine Hcd.out.mono ?_;rintro e w1 ⟨gc,rfl,hrc,hgc,hb1⟩;have Hrc:=hid hrc;have Hr1:=hid (aC Hr.out hb1);have Hs1:=hid (aC Hs.out hb1);have Hb1:=hid hb1;have uY:=hid (WS.new w1 155 (by decide));have Hal:=hid ((Below.refl w1.heap.size w1).alloc (Nat.le_refl _) (.cells #[.pointer none,.int .u64 0,.int .i64 0] 155));clear hrc hb1 Hr Hs Hcd;go_wp2;go_loopw [20] (fun iv wr=>∃(k:Nat) (acc:List Nat),k<=bs.length/\iv=.int .i64 (k:Int)/\acc.length<=11*k/\Hid (Bm.encS ls (bs.take k)=some acc)/\Hid (WS wr w1.heap.size 0 (dW acc) acc.length)/\Hid (Below w1.heap.size w1 wr)) (fun iv _=>bs.length-(intOf iv).toNat)
 case atStart=>exact⟨0,[],by omega,rfl,by simp,hid (by rw[List.take_zero];rfl),uY,Hal⟩
 case round=>
  obtain⟨k,acc,hk,rfl,hacc,henc,hws,hbel⟩:=hrel;clear uY Hal;by_cases hkl:k<bs.length
  ·obtain⟨gb,ob,rfl,hcb⟩:=gu (aC Hs1.out hbel.out) (by intro e;rw[e]at hkl;simp at hkl);have c0:=hcb k hkl;have hno:=Hno.out k hkl;rw[List.getElem?_eq_getElem hkl,Option.getD_some]at hno;have hbk:=Hlt.out bs[k] (List.getElem_mem hkl);have htk:bs.take (k+1)=bs.take k++[bs[k]]:=List.take_succ_eq_append_getElem hkl;have hen:=El ls bs[k] (bs.take k);rw[<-htk,henc.out,Option.map_some]at hen;have Hen:=hid hen;have ahV:=hid hno;clear hcb hno htk hen henc Hno;generalize bs[k]=y at *;by_cases hy:y<ls.length
   ·obtain⟨gl,ol,rfl,hcl⟩:=fZ (aC Hr1.out hbel.out) (by omega);have c1:=hcl y hy;have hge:ls[y]?.getD 0=ls[y]:=by rw[List.getElem?_eq_getElem hy,Option.getD_some]
    have h11:=HW.out.2.1 ls[y] (List.getElem_mem hy);have Hcw:Hid (∀W,Below w1.heap.size w1 W->W.cell? ⟨gl,ol+y,none⟩=some (.int .i64 (ls[y]:Int))):=hid (fun W hb=>by
     obtain⟨g2,off2,e,hc2⟩:=fZ (aC Hr1.out hb) (by omega);injection e with e
     injection e with e1 e2
     subst e1 e2;exact hc2 y hy)
    have Hcc:Hid (∀W,Below w1.heap.size w1 W->W.cell? ⟨gc,y,none⟩=some (.int .i64 (eX ls y:Int))):=hid (fun W hb=>by
     obtain⟨g2,off2,e,hc2⟩:=fZ (aC Hrc.out hb) (by rw[jL];omega);injection e with e
     injection e with e1 e2
     subst e1 e2;have:=hc2 y (by rw[jL];exact hy);rw[Ec ls y hy,Nat.zero_add]at this;exact this)
    have akF:=hid (fun h=>vH ls y hy HW.out h);have ahF:=hid (aQ ls y);have akE:=hid (Si ls y);have akD:=hid (kW ls y);rw[hge]at ahV Hen akF ahF akE;clear hcl hge;generalize apX:aY ls y=cb at *;generalize eX ls y=cn at *;generalize ls[y]=x at *;clear apX;by_cases hx:x=0
    ·have hrn:res=none:=ahV.out hx;subst hx;have Hrn:=hid hrn;have Hbb:=hid (Hb1.out.trans (hbel.out.mono Hb1.out.size));clear hrn;go_wp2;go_ret2;rw[Hrn.out];exact⟨rfl,Hbb.out⟩
    ·have hx0:0<x:=by omega
     have hen:=Hen.out;rw[if_pos hx0]at hen;have apc:=hid hen;have hcn:=akF.out hx0;have hfl:=Hfl.out x cn;have hpt:=Bl.out wr.drew w1.heap.size (dW acc) acc.length (dW cb) x (by omega) (by have:=vF cb akD.out;rw[ahF.out]at this;exact Nat.lt_trans (Nat.lt_of_lt_of_le this (Nat.pow_le_pow_right (n:=2) (j:=11) (by omega) h11)) (by decide)) (by omega) hws.out.drew;have hep:=aey acc cb akD.out;rw[ahF.out]at hep;rw[hep]at hpt;rw[<-akE.out]at hfl;have Hpt:=hid hpt;have apd:=hid (fun W=>hfl W h11 hcn);have hcl:=Hcw.out;have hcc:=Hcc.out;have Hlen:Hid ((acc++cb).length=acc.length+x):=hid (by rw[List.length_append,ahF.out]);clear hen hpt hep hfl Hen ahV akF Hfl Bl hws Hcw Hcc ahF akE akD;generalize dW cb=vb at *;have hd1:decide (ls.length<=y)=false:=decide_eq_false (by omega);have hd2:((x:Int) == 0)=false:=by rw[beq_eq_false_iff_ne];omega
     go_wp2_with fail
     refine wp_region_held_drew (S:=(fun W=>Below w1.heap.size w1 W)) (by kernel_rfl) (by exact hbel.out.drew) (fun hHeld=>?_);refine wpAnyH_take (i:=0) (oi:={dst:=some 36,op:=.move (.tmp 6),type:=115,pos:= "litcode.go:64",after:=#[],guard:=none}) (v:=?_) rfl (by kernel_rfl) (by kernel_rfl) (by kernel_rfl) (fun _ _ _ h=>h) (Or.inl ⟨by rfl,?_⟩) (by assumption) ?_;rotate_left
     ·(intro w hSw;(try dsimp only at hSw);go_simp;(try with_reducible rfl))
     try simp only[Act.put,List.setIfInBounds_toArray,List.set_cons_zero,List.set_cons_succ]
     refine wpAnyH_take (i:=1) (oi:={dst:=some 37,op:=.move (.tmp 10),type:=5,pos:= "litcode.go:64",after:=#[],guard:=none}) (v:=?_) rfl (by kernel_rfl) (by kernel_rfl) (by kernel_rfl) (fun _ _ _ h=>h) (Or.inl ⟨by rfl,?_⟩) (by assumption) ?_;rotate_left
     ·(intro w hSw;(try dsimp only at hSw);go_simp;(try with_reducible rfl))
     try simp only[Act.put,List.setIfInBounds_toArray,List.set_cons_zero,List.set_cons_succ]
     refine wpAnyH_take (i:=2) (oi:={dst:=some 38,op:=.indexAddr 115 (.tmp 36) (.tmp 37),type:=0,pos:= "litcode.go:64",after:=#[{on:=0,ground:=.data},{on:=1,ground:=.data}],guard:=none}) (v:=?_) rfl (by kernel_rfl) (by kernel_rfl) (by kernel_rfl) (fun _ _ _ h=>h) (Or.inl ⟨by rfl,?_⟩) (by assumption) ?_;rotate_left
     ·(intro w hSw;(try dsimp only at hSw);go_simp;(try with_reducible rfl))
     try simp only[Act.put,List.setIfInBounds_toArray,List.set_cons_zero,List.set_cons_succ]
     refine wpAnyH_take (i:=3) (oi:={dst:=some 39,op:=.load 3 (.tmp 38),type:=3,pos:= "litcode.go:64",after:=#[{on:=2,ground:=.data}],guard:=none}) (v:=?_) rfl (by kernel_rfl) (by kernel_rfl) (by kernel_rfl) (fun _ _ _ h=>h) (Or.inl ⟨by rfl,?_⟩) (by assumption) ?_;rotate_left
     ·(intro w hSw;(try dsimp only at hSw);go_simp;(try with_reducible rfl))
     try simp only[Act.put,List.setIfInBounds_toArray,List.set_cons_zero,List.set_cons_succ]
     refine wpAnyH_take (i:=4) (oi:={dst:=some 40,op:=.move (.tmp 0),type:=115,pos:= "litcode.go:64",after:=#[],guard:=none}) (v:=?_) rfl (by kernel_rfl) (by kernel_rfl) (by kernel_rfl) (fun _ _ _ h=>h) (Or.inl ⟨by rfl,?_⟩) (by assumption) ?_;rotate_left
     ·(intro w hSw;(try dsimp only at hSw);go_simp;(try with_reducible rfl))
     try simp only[Act.put,List.setIfInBounds_toArray,List.set_cons_zero,List.set_cons_succ]
     refine wpAnyH_take (i:=5) (oi:={dst:=some 41,op:=.move (.tmp 10),type:=5,pos:= "litcode.go:64",after:=#[],guard:=none}) (v:=?_) rfl (by kernel_rfl) (by kernel_rfl) (by kernel_rfl) (fun _ _ _ h=>h) (Or.inl ⟨by rfl,?_⟩) (by assumption) ?_;rotate_left
     ·(intro w hSw;(try dsimp only at hSw);go_simp;(try with_reducible rfl))
     try simp only[Act.put,List.setIfInBounds_toArray,List.set_cons_zero,List.set_cons_succ]
     refine wpAnyH_take (i:=6) (oi:={dst:=some 42,op:=.indexAddr 115 (.tmp 40) (.tmp 41),type:=0,pos:= "litcode.go:64",after:=#[{on:=4,ground:=.data},{on:=5,ground:=.data}],guard:=none}) (v:=?_) rfl (by kernel_rfl) (by kernel_rfl) (by kernel_rfl) (fun _ _ _ h=>h) (Or.inl ⟨by rfl,?_⟩) (by assumption) ?_;rotate_left
     ·(intro w hSw;(try dsimp only at hSw);go_simp;(try with_reducible rfl))
     try simp only[Act.put,List.setIfInBounds_toArray,List.set_cons_zero,List.set_cons_succ]
     refine wpAnyH_take (i:=7) (oi:={dst:=some 43,op:=.load 3 (.tmp 42),type:=3,pos:= "litcode.go:64",after:=#[{on:=6,ground:=.data}],guard:=none}) (v:=?_) rfl (by kernel_rfl) (by kernel_rfl) (by kernel_rfl) (fun _ _ _ h=>h) (Or.inl ⟨by rfl,?_⟩) (by assumption) ?_;rotate_left
     ·(intro w hSw;(try dsimp only at hSw);go_simp;(try with_reducible rfl))
     try simp only[Act.put,List.setIfInBounds_toArray,List.set_cons_zero,List.set_cons_succ]
     refine wpAnyH_take (i:=9) (oi:={dst:=some 45,op:=.move (.tmp 0),type:=115,pos:= "litcode.go:64",after:=#[],guard:=none}) (v:=?_) rfl (by kernel_rfl) (by kernel_rfl) (by kernel_rfl) (fun _ _ _ h=>h) (Or.inl ⟨by rfl,?_⟩) (by assumption) ?_;rotate_left
     ·(intro w hSw;(try dsimp only at hSw);go_simp;(try with_reducible rfl))
     try simp only[Act.put,List.setIfInBounds_toArray,List.set_cons_zero,List.set_cons_succ]
     refine wpAnyH_take (i:=10) (oi:={dst:=some 46,op:=.move (.tmp 10),type:=5,pos:= "litcode.go:64",after:=#[],guard:=none}) (v:=?_) rfl (by kernel_rfl) (by kernel_rfl) (by kernel_rfl) (fun _ _ _ h=>h) (Or.inl ⟨by rfl,?_⟩) (by assumption) ?_;rotate_left
     ·(intro w hSw;(try dsimp only at hSw);go_simp;(try with_reducible rfl))
     try simp only[Act.put,List.setIfInBounds_toArray,List.set_cons_zero,List.set_cons_succ]
     refine wpAnyH_take (i:=11) (oi:={dst:=some 47,op:=.indexAddr 115 (.tmp 45) (.tmp 46),type:=0,pos:= "litcode.go:64",after:=#[{on:=9,ground:=.data},{on:=10,ground:=.data}],guard:=none}) (v:=?_) rfl (by kernel_rfl) (by kernel_rfl) (by kernel_rfl) (fun _ _ _ h=>h) (Or.inl ⟨by rfl,?_⟩) (by assumption) ?_;rotate_left
     ·(intro w hSw;(try dsimp only at hSw);go_simp;(try with_reducible rfl))
     try simp only[Act.put,List.setIfInBounds_toArray,List.set_cons_zero,List.set_cons_succ]
     refine wpAnyH_take (i:=12) (oi:={dst:=some 48,op:=.load 3 (.tmp 47),type:=3,pos:= "litcode.go:64",after:=#[{on:=11,ground:=.data}],guard:=none}) (v:=?_) rfl (by kernel_rfl) (by kernel_rfl) (by kernel_rfl) (fun _ _ _ h=>h) (Or.inl ⟨by rfl,?_⟩) (by assumption) ?_;rotate_left
     ·(intro w hSw;(try dsimp only at hSw);go_simp;(try with_reducible rfl))
     try simp only[Act.put,List.setIfInBounds_toArray,List.set_cons_zero,List.set_cons_succ]
     refine wpAnyH_ready (rs:=[8]) (by kernel_rfl) (by simp) ?_;refine AllReadyH.cons (o:={dst:=some 44,op:=.call {callee:=.value (.func 128),args:=#[.tmp 39,.tmp 43],argTypes:=#[3,3]},type:=139,pos:= "litcode.go:64",after:=#[{on:=3,ground:=.data},{on:=7,ground:=.data}],guard:=none}) rfl (fun K hK=>?_) AllReadyH.nil;go_simp
     (go_at_call 128;refine(apd.out _).mono ?_;rintro e w' ⟨rfl,rfl⟩)
     go_simp;refine hK.out _ _ (by with_reducible assumption) (fun hHeld=>?_);clear hK K
     try simp only[Act.put,List.setIfInBounds_toArray,List.set_cons_zero,List.set_cons_succ]
     refine wpAnyH_ready (rs:=[13]) (by kernel_rfl) (by simp) ?_;refine AllReadyH.cons (o:={dst:=some 49,op:=.call {callee:=.value (.func 93),args:=#[.tmp 8,.tmp 44,.tmp 48],argTypes:=#[155,139,3]},type:=4,pos:= "litcode.go:64",after:=#[{on:=8,ground:=.data},{on:=12,ground:=.data},{on:=8,ground:=.chain}],guard:=none}) rfl (fun K hK=>?_) AllReadyH.nil;go_simp
     (go_at_call 93;refine Hpt.out.mono ?_;rintro e w3 ⟨rfl,acZ,hg3⟩;have ahb:=hid acZ;have Hb3:Hid (Below w1.heap.size w1 w3):=hid (hbel.out.drew.grown hg3 hbel.out.size (fun k e=>by injection e with e;omega));clear acZ hg3 Hpt)
     go_simp;refine hK.out _ _ (by exact Hb3.out) (fun hHeld=>?_);clear hK K
     try simp only[Act.put,List.setIfInBounds_toArray,List.set_cons_zero,List.set_cons_succ]
     refine wpAnyH_done (by kernel_rfl) ?_ _;rw[<-Hlen.out]at ahb;clear hcl hcc hd1 hd2;go_wp2;go_roundw
     case rel=>exact⟨k+1,acc++cb,by omega,by go_num,by rw[Hlen.out];omega,apc,ahb,Hb3⟩
     case measure=>simp[intOf];omega
   ·have hd1:decide (ls.length<=y)=true:=decide_eq_true (by omega);have hrn:res=none:=ahV.out (by rw[List.getElem?_eq_none (by omega)];rfl);have Hrn:=hid hrn;have Hbb:=hid (Hb1.out.trans (hbel.out.mono Hb1.out.size));clear hrn ahV Hen;go_wp2;go_ret2;rw[Hrn.out];exact⟨rfl,Hbb.out⟩
  ·obtain rfl:k=bs.length:=by omega
   rw[List.take_length]at henc;have hrs:res=some (pO acc):=by rw[dV.out,QB,henc.out,Option.map_some]
   have Hrs:=hid hrs;have hby:=kr w1.heap.size 0 _ _ wr (by omega) hws.out;rw[SI,<-nu]at hby;have Hby:=hid hby;have hlt2:=LZ acc;have Hcv:Hid (∀W A c,Reads W A (u8s (pO acc))->(convert 60 9 (.slice A (pO acc).length c)).run prog W=.ok (.string (strOf (pO acc))) W):=hid (fun W A c hrd=>bS W A c _ hlt2 hrd);clear hrs hby hws henc hlt2 Hno Bl Hfl;generalize pO acc=tb at *;go_wp2_with fail
   refine Hby.out.mono ?_;rintro e w4 ⟨g4,rfl,hg4,hr4,hb4⟩;have hcv:=Hcv.out w4 _ tb.length (bP hr4);have Hb4:=hid (Hb1.out.trans ((hbel.out.trans (hb4.mono hbel.out.size)).mono Hb1.out.size));clear hr4 hb4 hbel Hby Hcv;go_wp2;go_ret2;rw[Hrs.out];exact⟨rfl,Hb4.out⟩
namespace Bm
theorem Qr(ls:List Nat):jG (ls.map fun n:Nat=>(n:Int))↔bC ls:=by
 have e:(ls.map fun n:Nat=>(n:Int)).map Int.toNat=ls:=by
  rw[List.map_map];conv=>rhs;rw[<-List.map_id ls]
  apply List.map_congr_left
  intro x _;simp
 unfold jG;rw[e];refine⟨fun h=>h.2,fun h=>⟨⟨by rw[List.length_map];exact h.1,fun x hx=>?_⟩,h⟩⟩;obtain⟨y,hy,rfl⟩:=List.mem_map.1 hx;have:=h.2.1 y hy;omega
def pU(F:Nat->Nat)(n i:Nat):List Nat:=(List.range i).map F++List.replicate (n-i) 0
theorem Pv(F:Nat->Nat)(n:Nat):pU F n 0=List.replicate n 0:=by simp[pU]
theorem VQ(F:Nat->Nat)(n:Nat):pU F n n=(List.range n).map F:=by simp[pU]
theorem FB(F:Nat->Nat)(n i:Nat)(h:i<=n):(pU F n i).length=n:=by simp[pU];omega
theorem Pt(F:Nat->Nat)(n i:Nat)(h:i<n):pU F n (i+1)=(pU F n i).set i (F i):=by
 unfold pU;have h1:((List.range i).map F).length=i:=by simp
 rw[List.set_append_right _ _ (by omega),h1,Nat.sub_self,List.range_succ,List.map_append,List.append_assoc];congr 1
 obtain⟨m,hm⟩:∃m,n-i=m+1:=⟨n-i-1,by omega⟩;rw[hm,show n-(i+1)=m by omega,List.replicate_succ];simp
end Bm
theorem Ad(w:World)(b x k:Nat)(bs f rb l:List Nat)(st1 st2:Left)(F P:Nat->Nat)(res:Option (List Nat×Nat))(hx:x=aW f)(hx2:x<256)(hk:k=(x+2)/2)(hbs:∀y∈bs,y<256)(hbl:bs.length<=10000)
  (h1:gZ 1 (some bs)=(f,st1)) (h2:gZ k st1=(rb,st2)) (hrb:∀y∈rb,y<256) (hrl:rb.length<=10000) (hl:l=(List.range (x+1)).map F) (hF:∀i,F i<16) (hP0:P 0=0) (hPn:P (x+1)<=8*rb.length)
  (hT:∀(W:World) (br i:Nat),i<x+1->RS W br 0 rb (P i)->Calls prog 159 #[.pointer (some ⟨br,0,none⟩),.int .i64 4] W fun e w'=>(∃ok,e=.returned (.tuple #[.int .u32 (F i:Int),.bool ok]))/\RS w' br 0 rb (P (i+1))/\W.grownBy w' (some br))
  (hr1:∀t,st2=some t->Ib rb (P (x+1))->bC l->l[x]?.getD 0≠0->∃q,res=some (l,q)/\bs.drop q=t)
  (hr0:(st2=none\/¬Ib rb (P (x+1))\/¬bC l\/l[x]?.getD 0=0)->res=none)
  (hc:CR w b (some bs)) :
  Calls prog 129 #[.pointer (some ⟨b,0,none⟩)] w fun e w'=>Yk w' b bs e res/\w.grownBy w' (some b):=by
 obtain⟨i0,hi,hz0,hz1,hz2⟩:=info_parts gQ;have c0:=Row.cell hc 0;have c1:=Row.cell hc 1;simp only[kK,List.getElem?_cons_zero,List.getElem?_cons_succ]at c0 c1;have Hc:=hid hc;obtain⟨w0,hw0⟩:∃w0,w0=w.alloc (.cells #[.string (strOf bs),.bool false] 82):=⟨_,rfl⟩;have Zp:CR w0 w.heap.size (some bs):=by rw[hw0];exact Row.new w 82 _
 have hb0:Below w.heap.size w w0:=by rw[hw0];exact(Below.refl _ _).alloc (Nat.le_refl _) _
 have hfx:=kM w.heap.size (some bs) 1 w0 (by omega) (by omega) ⟨hbs,by omega⟩ Zp;rw[show fx 1=1 from by decide,h1]at hfx;dsimp only at hfx;rw[<-hx]at hfx;have Hfx:=hid hfx;have fT:Hid (∀(W:World) (z:Int),z=(k:Int)->CR W w.heap.size st1->Calls prog 42 #[.pointer (some ⟨w.heap.size,0,none⟩),.int .i64 z] W fun e w'=>e=.returned (.string (strOf rb))/\CR w' w.heap.size st2/\W.grownBy w' (some w.heap.size)):=hid (fun W z hz hcr=>by
  have h:=gD w.heap.size st1 z W hcr;rw[hz,Int.toNat_natCast,h2]at h;rw[hz];exact h)
 have Hb0:=hid hb0;have HT:=hid hT;have Hr1:=hid hr1;have Hr0:=hid hr0;have HF:=hid hF;have Hl:=hid hl;have Hrb:=hid hrb;have HP0:=hid hP0;clear hc Zp hb0 hfx hx hT hr1 hr0 hF hl h1 h2 hrb hP0 hbs;go_enter func129,ntmps129
 go_wp2_with fail
 rw[<-hw0];clear hw0 c0 c1;refine Hfx.out.mono ?_;rintro e wa ⟨rfl,anG,hga⟩;have amz:=hid anG;have Hba:Hid (Below w.heap.size w wa):=hid (Hb0.out.grown hga Hb0.out.size (fun k e=>by injection e with e;omega));clear anG hga Hfx Hb0;go_wp2_with fail
 refine(fT.out _ _ (by omega) amz.out).mono ?_;rintro e wb ⟨rfl,alE,hgb⟩;obtain⟨wc,cap,dB,hcells,hbc⟩:=bU wb rb Hrb.out;have aol:Reads wc (some ⟨wb.heap.size,0,none⟩) (u8s rb):=fun _=>⟨_,_,rfl,fun j hj=>by
  rw[aO]at hj;rw[Nat.zero_add,hcells j hj,bD rb j hj]⟩
 have hbb:Below w.heap.size w wb:=Hba.out.grown hgb Hba.out.size (fun k e=>by injection e with e;omega);have hbc2:=hbb.trans (hbc.mono hbb.size);have amA:=hid (alE.below hbc);have Hnr:=hid (qM (some ⟨wb.heap.size,0,none⟩) cap rb wc Hrb.out aol);have Hbc:=hid hbc2;have hlw:w.heap.size<wc.heap.size:=Nat.lt_of_lt_of_le alE.lt hbc.size;clear alE hgb hcells hbc aol hbb hbc2 Hba amz fT;go_wp2_with fail
 refine Hnr.out.mono ?_;rintro e wd ⟨rfl,hrs,hbd⟩;have Hrs:=hid hrs;have amB:=hid (amA.out.below hbd);have Hbd:=hid (Hbc.out.trans (hbd.mono Hbc.out.size));have hld:wc.heap.size<wd.heap.size:=hrs.2.2.2;clear hrs hbd amA Hbc Hnr dB;go_wp2_with (at_make;refine wpList_make_full _ rfl _ _ 115 rfl w.heap.size 3 i0 (.int .i64 0) 1 underlying115 hi hz0 hz1 .i64 .i64 _ _ (x+1) rfl rfl ?c1 ?c1 ?c2 ?c3 ?c4 ?_)
 case c1=>omega
 case c2=>first | omega | (rw[hz2];omega)
 case c3=>unfold maxLen;omega
 try case c4=>omega
 intro we ajh hge;have hbe:=aJ hge;have hre:=dH ajh;have Hre:=hid hre;have amV:=hid (Hrs.out.keep hge (by simp));have amC:=hid (amB.out.below hbe);have Hbe:=hid (Hbd.out.trans (hbe.mono Hbd.out.size));clear ajh hge hbe hre hi hz0 hz1 hz2 Hrs amB Hbd;generalize wd.heap.size=gl at *;generalize wc.heap.size=br at *;go_wp2;go_loopw [29] (fun iv wr=>∃i:Nat,i<=x+1/\iv=.int .i64 (i:Int)/\Hid (RS wr br 0 rb (P i))/\Hid (Row wr gl 3 (aM (pU F (x+1) i)))/\Hid (CR wr w.heap.size st2)/\Hid (Below w.heap.size w wr)) (fun iv _=>x+1-(intOf iv).toNat)
 case atStart=>exact⟨0,by omega,rfl,hid (by rw[HP0.out];exact amV.out),hid (by rw[Pv];exact Hre.out),amC,Hbe⟩
 case round=>
  obtain⟨i,hix,rfl,hrs,hrow,hcr,hbel⟩:=hrel;clear amV Hre amC Hbe;by_cases hi1:i<x+1
  ·have htk:=HT.out wr br i hi1 hrs.out;have aqI:=HF.out i;have hnx:=Pt F (x+1) i hi1;have hln:=FB F (x+1) i (by omega);have Htk:=hid htk;have Dn:Hid (∀W,Row W gl 3 (aM (pU F (x+1) i))->Row (W.setCell ⟨gl,i,none⟩ (.int .i64 (F i:Int))) gl 3 (aM (pU F (x+1) (i+1)))):=hid (fun W h=>by
    have h1:=h.aT i (.int .i64 (F i:Int));rw[hnx,show aM ((pU F (x+1) i).set i (F i))=(aM (pU F (x+1) i)).set i (.int .i64 (F i:Int)) by simp[aM,List.map_set]];exact h1)
   have Hln:=hid hln;clear htk hnx hln;generalize F i=v at *;go_wp2_with fail
   refine Htk.out.mono ?_;rintro e w2 ⟨⟨ok,rfl⟩,QC,hg2⟩;have hrow2:Row w2 gl 3 (aM (pU F (x+1) i)):=hrow.out.keep (hg2.block gl hrow.out.lt (fun e=>by injection e with e;omega));have hcell:∃u,w2.cell? ⟨gl,i,none⟩=some u:=⟨_,(hrow2.cell i).trans (List.getElem?_eq_getElem (by rw[aN,Hln.out];omega))⟩;obtain⟨u0,hcd⟩:=hcell;have hfd:w2.frozen? ⟨gl,i,none⟩=false:=hrow2.free i;have kg:=hid (Dn.out w2 hrow2);have jX:CR w2 w.heap.size st2:=hcr.out.keep hg2 (fun e=>by injection e with e;omega);have QD:RS (w2.setCell ⟨gl,i,none⟩ (.int .i64 (v:Int))) br 0 rb (P (i+1)):=QC.keep (row:=some gl) (aB (aj w2 (some gl)) i _) (fun e=>by injection e with e;omega);have adQ:=hid QD;have aoZ:Hid (CR (w2.setCell ⟨gl,i,none⟩ (.int .i64 (v:Int))) w.heap.size st2):=hid (jX.keep (row:=some gl) (aB (aj w2 (some gl)) i _) (fun e=>by injection e with e;omega));have hb2:Below w.heap.size w w2:=hbel.out.grown hg2 hbel.out.size (fun k e=>by injection e with e;omega);have Hb3:=hid (hb2.setCell (p:=⟨gl,i,none⟩) (by show w.heap.size<=gl;omega) (.int .i64 (v:Int)));clear hrow hrow2 hcr jX hrs QC QD hg2 hbel hb2 Htk Dn Hln;go_wp2;go_roundw
   case rel=>exact⟨i+1,by omega,by go_num,adQ,kg,aoZ,Hb3⟩
   case measure=>simp[intOf];omega
  ·obtain rfl:i=x+1:=by omega
   rw[VQ,<-Hl.out]at hrow;have hll:l.length=x+1:=by rw[Hl.out];simp
   clear HT HF HP0 Hl;have MX:=hid (aK w.heap.size st2 wr hcr.out);cases st2 with
   | none=>
    have dV:=hid (Hr0.out (.inl rfl));clear Hr0 Hr1;go_wp2_with fail
    refine MX.out.mono ?_;rintro e w' ⟨rfl,rfl⟩;go_wp2;go_ret2;rw[dV.out];exact⟨⟨_,_,rfl⟩,ak hbel.out _⟩
   | some t=>
    have dR:=hid (Ac br rb (P (x+1)) wr hrl Hrb.out hPn hrs.out);clear hrs;by_cases hE:Ib rb (P (x+1))
    ·rw[decide_eq_true hE]at dR;have Hwh:Hid (∀W,Row W gl 3 (aM l)->Calls prog 125 #[.slice (some ⟨gl,0,none⟩) (x+1) (x+1)] W fun e w'=>e=.returned (.bool (decide (bC l)))/\W=w'):=hid (fun W h=>by
      have h1:=uq (some ⟨gl,0,none⟩) (x+1) (l.map fun n:Nat=>(n:Int)) W (by rw[List.length_map];omega) (by rw[bJ];exact bP h);rw[List.length_map,hll,decide_eq_decide.2 (Qr l)]at h1;exact h1)
     by_cases hW:bC l
     ·rw[decide_eq_true hW]at Hwh;have hge:l[x]?.getD 0=l[x]:=by rw[List.getElem?_eq_getElem (by omega),Option.getD_some]
      have hr1:=Hr1.out t rfl hE hW;have hr0:=fun h=>Hr0.out (.inr (.inr (.inr h)))
      rw[hge]at hr1 hr0;have Hq1:=hid hr1;have Hq0:=hid hr0;have Hcl:Hid (∀W,Row W gl 3 (aM l)->W.cell? ⟨gl,x,none⟩=some (.int .i64 (l[x]:Int))):=hid (fun W h=>by rw[h.cell x,bK l x (by omega)]);clear hge hr1 hr0 Hr0 Hr1;generalize l[x]=z at *;go_wp2_with fail
      refine MX.out.mono ?_;rintro e w' ⟨rfl,rfl⟩;go_wp2_with fail
      refine dR.out.mono ?_;rintro e w2 ⟨rfl,hg2⟩;have hb2:=hbel.out.grown hg2 hbel.out.size (fun k e=>by injection e with e;omega);have hrow2:Row w2 gl 3 (aM l):=hrow.out.keep (hg2.block gl hrow.out.lt (fun e=>by injection e with e;omega));have jX:CR w2 w.heap.size (some t):=hcr.out.keep hg2 (fun e=>by injection e with e;omega);have Hb2:=hid hb2;have dL:=hid hrow2;have vW:=hid jX;have cz:=Hcl.out w2 hrow2;have d0:=Row.cell jX 0;have d1:=Row.cell jX 1;simp only[kK,List.getElem?_cons_zero,List.getElem?_cons_succ]at d0 d1;have hcb:CR w2 b (some bs):=Hc.out.below hb2;have e0:=Row.cell hcb 0;have e1:=Row.cell hcb 1;simp only[kK,List.getElem?_cons_zero,List.getElem?_cons_succ]at e0 e1;have f0:=Row.free hcb 0;have f1:=Row.free hcb 1;have Dn:Hid (CR ((w2.setCell ⟨b,0,none⟩ (.string (strOf t))).setCell ⟨b,1,none⟩ (.bool false)) b (some t)):=hid (by
       have h:=(Row.aT hcb 0 (.string (strOf t))).aT 1 (.bool false);exact h)
      have Hgs:Hid (w.grownBy ((w2.setCell ⟨b,0,none⟩ (.string (strOf t))).setCell ⟨b,1,none⟩ (.bool false)) (some b)):=hid (aB (aB (ak hb2 (some b)) 0 _) 1 _);have hbw:b<w.heap.size:=Hc.out.lt;have Hrd:Hid (Reads ((w2.setCell ⟨b,0,none⟩ (.string (strOf t))).setCell ⟨b,1,none⟩ (.bool false)) (some ⟨gl,0,none⟩) (aM l)):=hid (bP ((hrow2.far (p:=⟨b,0,none⟩) (by show gl≠b;omega) _).far (p:=⟨b,1,none⟩) (by show gl≠b;omega) _));have aki:=hid (Hwh.out w2 hrow2);have hxi:(x:Int)+1-1=(x:Int):=by omega
      clear hg2 hb2 hrow2 jX hcb hbel hrow hcr Hwh Hcl;by_cases hz:z=0
      ·subst hz;have dV:=hid (Hq0.out rfl);clear Hq0 Hq1 d0 d1 e0 e1 f0 f1;go_wp2_with fail
       refine aki.out.mono ?_;rintro e w' ⟨rfl,rfl⟩;go_wp2;go_ret2;rw[dV.out];exact⟨⟨_,_,rfl⟩,ak Hb2.out _⟩
      ·have hd:((z:Int) == 0)=false:=by rw[beq_eq_false_iff_ne];omega
       obtain⟨q,hres,hdq⟩:=Hq1.out hz;have dV:=hid hres;have Hdq:=hid hdq;have Hll:=hid hll;clear Hq0 Hq1 hres hdq hll;go_wp2_with fail
       refine aki.out.mono ?_;rintro e w' ⟨rfl,rfl⟩;go_wp2;go_ret2;rw[dV.out];exact⟨⟨some ⟨gl,0,none⟩,x+1,by rw[Hll.out];rfl,Hrd.out,by rw[Hdq.out];exact Dn.out⟩,Hgs.out⟩
     ·rw[decide_eq_false hW]at Hwh;have dV:=hid (Hr0.out (.inr (.inr (.inl hW))));clear Hr0 Hr1;go_wp2_with fail
      refine MX.out.mono ?_;rintro e w' ⟨rfl,rfl⟩;go_wp2_with fail
      refine dR.out.mono ?_;rintro e w2 ⟨rfl,hg2⟩;have hrow2:Row w2 gl 3 (aM l):=hrow.out.keep (hg2.block gl hrow.out.lt (fun e=>by injection e with e;omega));have aki:=hid (Hwh.out w2 hrow2);have Hb2:=hid (hbel.out.grown hg2 hbel.out.size (fun k e=>by injection e with e;omega));clear hg2 hrow2 Hwh;go_wp2_with fail
      refine aki.out.mono ?_;rintro e w' ⟨rfl,rfl⟩;go_wp2;go_ret2;rw[dV.out];exact⟨⟨_,_,rfl⟩,ak Hb2.out _⟩
    ·rw[decide_eq_false hE]at dR;have dV:=hid (Hr0.out (.inr (.inl hE)));clear Hr0 Hr1;go_wp2_with fail
     refine MX.out.mono ?_;rintro e w' ⟨rfl,rfl⟩;go_wp2_with fail
     refine dR.out.mono ?_;rintro e w2 ⟨rfl,hg2⟩;have Hb2:=hid (hbel.out.grown hg2 hbel.out.size (fun k e=>by injection e with e;omega));clear hg2;go_wp2;go_ret2;rw[dV.out];exact⟨⟨_,_,rfl⟩,ak Hb2.out _⟩
namespace Bm
theorem agL(s:List Nat)(h:∀x∈s,x<256)(j:Nat):aW s/256^j%256=s[j]?.getD 0:=by
 rcases Nat.lt_or_ge j s.length with hj | hj
 ·have e:=mW s h;have h1:(bytesOf (aW s) s.length)[j]?=s[j]?:=by rw[e]
  rw[DV _ _ _ hj]at h1;rw[<-h1,Option.getD_some]
 ·have hv:=lQ s h;have:=Nat.pow_le_pow_right (n:=256) (by omega) hj;rw[Nat.div_eq_of_lt (by omega),List.getElem?_eq_none hj];rfl
theorem UE(s:List Nat)(h:∀x∈s,x<256)(i:Nat):aW s/2^(4*i)%2^4=if i%2=1 then s[i/2]?.getD 0/16%16 else s[i/2]?.getD 0%16:=by
 have e:=agL s h (i/2);rw[tH]at e;split
 ·next ho=>
  rw[<-e,show 4*i=8*(i/2)+4 by omega,Nat.pow_add,<-Nat.div_div_eq_div_mul];omega
 ·next ho=>
  rw[<-e,show 4*i=8*(i/2) by omega];omega
theorem AJ:∀l:List Nat,0<(aI l).length->(aI l)[(aI l).length-1]?.getD 0≠0
 | [],h=>by simp[aI]at h
 | n :: l,h=>by
  unfold aI at h ⊢;split
  ·next h0=>rw[if_pos h0]at h;simp at h
  ·next h0=>
   rcases Nat.eq_zero_or_pos (aI l).length with h1 | h1
   ·have h2:=List.eq_nil_of_length_eq_zero h1;rw[h2];have h3:l.sum=0:=by
     have:=short_zero l h2;have hz:∀l:List Nat,(∀x∈l,x=0)->l.sum=0:=fun l=>by
      induction l with
      | nil=>simp
      | cons a l ih=>
       intro h;rw[List.sum_cons,h a List.mem_cons_self,ih (fun x hx=>h x (List.mem_cons_of_mem _ hx))]
     exact hz l this
    simp only[List.length_cons,List.length_nil,List.getElem?_cons_zero,Nat.zero_add,Nat.sub_self,Option.getD_some];omega
   ·have ih:=AJ l h1;obtain⟨q,hq⟩:∃q,(aI l).length=q+1:=⟨(aI l).length-1,by omega⟩;rw[hq,Nat.add_sub_cancel]at ih;rw[List.length_cons,hq,Nat.add_sub_cancel,List.getElem?_cons_succ];exact ih
theorem PN(l:List Nat)(h:(aI l).length=l.length):aI l=l:=by
 obtain⟨m,hm⟩:=fH l;have e:=congrArg List.length hm;rw[List.length_append,List.length_replicate]at e;have hm0:m=0:=by omega
 subst hm0;rw[List.replicate_zero,List.append_nil]at hm;exact hm.symm
theorem AB(l:List Nat)(h:l[l.length-1]?.getD 0≠0):aI l=l:=by
 have h0:0<l.length:=by
  rcases Nat.eq_zero_or_pos l.length with h1 | h1
  ·rw[List.eq_nil_of_length_eq_zero h1]at h;simp at h
  ·exact h1
 have:=tZ l l.length (Nat.le_refl _) (fun j hj=>by rw[List.getElem?_eq_none hj];rfl) (.inr h);rwa [List.take_length]at this
section
variable (y:Nat) (rest rb:List Nat) (hy:y<256) (hb:∀x∈y :: rest,x<256) (hk:(y+2)/2<=rest.length) (hrb:rb=rest.take ((y+2)/2))
include hrb in
theorem agd(j:Nat)(hj:j<(y+2)/2):rb[j]?.getD 0=(y :: rest)[1+j]?.getD 0:=by
 rw[hrb,List.getElem?_take_of_lt hj,Nat.add_comm,List.getElem?_cons_succ]
include hk hrb in
theorem VD:rb.length=(y+2)/2:=by rw[hrb,List.length_take];omega
include hb hrb in
theorem aaV:∀x∈rb,x<256:=fun x hx=>hb x (List.mem_cons_of_mem _ (List.mem_of_mem_take (by rw[<-hrb];exact hx)))
include hb hrb in
theorem ajB(i:Nat)(hi:i<y+1):aW rb/2^(4*i)%2^4=vB (y :: rest) i:=by
 rw[UE rb (aaV y rest rb hb hrb),vB,agd y rest rb hrb (i/2) (by omega)]
include hb hrb in
theorem afA:(List.range (y+1)).map (fun i=>aW rb/2^(4*i)%2^4)=uQ (y :: rest) (y+1):=by
 unfold uQ;apply List.map_congr_left
 intro i hi;exact ajB y rest rb hb hrb i (List.mem_range.1 hi)
theorem UF(i:Nat)(hi:i<y+1):(uQ (y :: rest) (y+1))[i]?.getD 0=vB (y :: rest) i:=by
 unfold uQ;rw[List.getElem?_map,List.getElem?_range hi];rfl
include hb hk hrb in
theorem aix:Ib rb (4*(y+1))↔(y%2=0->rb[y/2]?.getD 0/16=0):=by
 have hl:=VD y rest rb hk hrb;have hlt:=aaV y rest rb hb hrb;have hm:rb[y/2]?.getD 0<256:=by
  rcases h:rb[y/2]? with _ | v
  ·simp
  ·exact hlt v (List.mem_of_getElem? h)
 rw[Lu rb hlt _ (by omega),hl];by_cases he:y%2=0
 ·have e:=UE rb hlt (y+1);rw[if_pos (by omega),show(y+1)/2=y/2 by omega]at e;rw[show 8*((y+2)/2)-4*(y+1)=4 by omega,e];constructor
  ·intro h _;omega
  ·intro h;have:=h he;omega
 ·rw[show 8*((y+2)/2)-4*(y+1)=0 by omega];constructor
  ·intro _ h;omega
  ·intro _;exact⟨by omega,by rw[Nat.pow_zero,Nat.mod_one]⟩
include hb hk hrb in
theorem ML:bR (uQ (y :: rest) (y+1))=(y :: rest).take (1+(y+2)/2)↔Ib rb (4*(y+1)):=by
 rw[aix y rest rb hb hk hrb];have hl:=VD y rest rb hk hrb;have hlt:=aaV y rest rb hb hrb;have hn:=gW (y :: rest) (y+1);have ht:(y :: rest).take (1+(y+2)/2)=y :: rb:=by rw[Nat.add_comm,List.take_succ_cons,hrb]
 have hlt2:∀j:Nat,rb[j]?.getD 0<256:=fun j=>by
  rcases h:rb[j]? with _ | v
  ·simp
  ·exact hlt v (List.mem_of_getElem? h)
 have ajj:∀j:Nat,j<(y+2)/2->(qR (uQ (y :: rest) (y+1)) j=rb[j]?.getD 0↔(2*j=y->rb[j]?.getD 0/16=0)):=fun j hj=>by
  have e1:=UF y rest (2*j) (by omega);have n1:vB (y :: rest) (2*j)=rb[j]?.getD 0%16:=by
   rw[vB,if_neg (by omega),agd y rest rb hrb j hj,show 2*j/2=j by omega]
  have:=hlt2 j;unfold qR;rw[e1,n1];by_cases h2:2*j=y
  ·have e0:(uQ (y :: rest) (y+1))[2*j+1]?.getD 0=0:=by rw[List.getElem?_eq_none (by rw[hn];omega),Option.getD_none]
   rw[e0];constructor
   ·intro h _;omega
   ·intro h;have:=h h2;omega
  ·have e2:=UF y rest (2*j+1) (by omega);have n2:vB (y :: rest) (2*j+1)=rb[j]?.getD 0/16%16:=by
    rw[vB,if_pos (by omega),agd y rest rb hrb j hj,show(2*j+1)/2=j by omega]
   rw[e2,n2];constructor
   ·intro _ h;exact absurd h h2
   ·intro _;omega
 rw[ht];unfold bR;rw[hn,Nat.add_sub_cancel,show(y+1+1)/2=(y+2)/2 by omega];constructor
 ·intro h he;injection h with _ h
  have hj:y/2<(y+2)/2:=by omega
  have h1:((List.range ((y+2)/2)).map (qR (uQ (y :: rest) (y+1))))[y/2]?=rb[y/2]?:=by rw[h]
  rw[List.getElem?_map,List.getElem?_range hj,Option.map_some]at h1;exact(ajj (y/2) hj).1 (by rw[<-h1,Option.getD_some]) (by omega)
 ·intro h;congr 1
  apply List.ext_getElem
  ·rw[List.length_map,List.length_range,hl]
  ·intro j h1 h2;rw[List.length_map,List.length_range]at h1;rw[List.getElem_map,List.getElem_range,(ajj j h1).2 (fun e=>by rw[show j=y/2 by omega];exact h (by omega)),List.getElem?_eq_getElem h2,Option.getD_some]
include hb hk hrb in
theorem VF(hE:Ib rb (4*(y+1)))(hW:bC (uQ (y :: rest) (y+1)))(hn:(uQ (y :: rest) (y+1))[y]?.getD 0≠0):jl (y :: rest)=some (uQ (y :: rest) (y+1),1+(y+2)/2):=by
 have hl:=gW (y :: rest) (y+1);have hs:=AB (uQ (y :: rest) (y+1)) (by rw[hl,Nat.add_sub_cancel];exact hn);unfold jl;rw[List.getElem?_cons_zero,Option.getD_some,if_neg (by simp),if_neg (by rw[List.length_cons];omega),hs,if_pos ⟨hW,(ML y rest rb hb hk hrb).2 hE⟩]
include hb hk hrb in
theorem aaW(h:¬Ib rb (4*(y+1))\/¬bC (uQ (y :: rest) (y+1))\/(uQ (y :: rest) (y+1))[y]?.getD 0=0):jl (y :: rest)=none:=by
 have hl:=gW (y :: rest) (y+1);unfold jl;rw[List.getElem?_cons_zero,Option.getD_some,if_neg (by simp),if_neg (by rw[List.length_cons];omega)];split
 ·next hc=>
  exfalso
  obtain⟨hW,ht⟩:=hc;have h0:=(pY _ hW).2;have hh:(aI (uQ (y :: rest) (y+1))).length-1=y:=by
   have:=congrArg (fun l=>l[0]?.getD 0) ht;rw[Nat.add_comm 1,List.take_succ_cons]at this;simpa [bR]using this
  have hs:=PN (uQ (y :: rest) (y+1)) (by rw[hl];omega);rw[hs]at ht;have hE:=(ML y rest rb hb hk hrb).1 ht;have hlast:=AJ _ h0;rw[hs,hl,Nat.add_sub_cancel]at hlast;rcases h with h | h | h
  ·exact h hE
  ·exact h hW
  ·exact hlast h
 ·rfl
end
end Bm
theorem EM(w:World)(b x:Nat)(bs f:List Nat)(st1:Left)(hx:x=aW f)(hx2:x<256)(hbs:∀y∈bs,y<256)(hbl:bs.length<=10000)
  (h1:gZ 1 (some bs)=(f,st1)) (h2:gZ ((x+2)/2) st1=([],none)) (hres:jl bs=none) (hc:CR w b (some bs)) :
  Calls prog 129 #[.pointer (some ⟨b,0,none⟩)] w fun e w'=>Yk w' b bs e (jl bs)/\w.grownBy w' (some b):=by
 refine Ad w b x ((x+2)/2) bs f [] ((List.range (x+1)).map fun _=>0) st1 none (fun _=>0) (fun _=>0) _ hx hx2 rfl hbs hbl h1 h2 (fun _ h=>by cases h) (by simp) rfl (fun _=>by omega) rfl (by simp) ?_ ?_ (fun _=>hres) hc
 ·intro W br i _ hrs;refine(rH br 0 [] 0 4 W (by simp) (by simp) (by omega) (by simp) hrs).mono ?_;rintro e w' ⟨rfl,k,rfl⟩;exact⟨⟨false,rfl⟩,hrs.drewN k,bL (aj _ _) k⟩
 ·intro t ht;cases ht
theorem aad:adY:=by
 intro w b bs hl hb hc;rcases bs with _ | ⟨y,rest⟩
 ·exact EM w b 0 [] [] none rfl (by omega) hb hl rfl rfl rfl hc
 ·have hy:y<256:=hb y List.mem_cons_self;have h1:gZ 1 (some (y :: rest))=([y],some rest):=by simp[gZ]
  have hv:y=aW [y]:=by simp[aW]
  by_cases hk:(y+2)/2<=rest.length
  ·have h2:gZ ((y+2)/2) (some rest)=(rest.take ((y+2)/2),some (rest.drop ((y+2)/2))):=by exact if_pos hk
   obtain⟨rb,hrb⟩:∃rb,rb=rest.take ((y+2)/2):=⟨_,rfl⟩;have hrl:=VD y rest rb hk hrb;have hrt:=aaV y rest rb hb hrb;have hnb:=afA y rest rb hb hrb;have hyes:=VF y rest rb hb hk hrb;have hno:=aaW y rest rb hb hk hrb;rw[<-hrb]at h2;refine Ad w b y ((y+2)/2) (y :: rest) [y] rb (uQ (y :: rest) (y+1)) (some rest) (some (rest.drop ((y+2)/2))) (fun i=>aW rb/2^(4*i)%2^4) (fun i=>4*i) _ hv hy rfl hb hl h1 h2 hrt (by omega) hnb.symm (fun i=>Nat.mod_lt _ (by decide)) rfl (by omega) ?_ ?_ ?_ hc
   ·intro W br i hi hrs;refine(jV br 0 rb (4*i) 4 W (by omega) hrt (by omega) (by omega) hrs).mono ?_;rintro e w' ⟨rfl,h3,h4⟩;exact⟨⟨true,rfl⟩,by rw[show 4*(i+1)=4*i+4 by omega];exact h3,h4⟩
   ·intro t ht hE hW hn;injection ht with ht
    exact⟨_,hyes hE hW hn,by rw[Nat.add_comm,List.drop_succ_cons];exact ht⟩
   ·rintro(h | h)
    ·cases h
    ·exact hno h
  ·have h2:gZ ((y+2)/2) (some rest)=([],none):=by exact if_neg hk
   refine EM w b y (y :: rest) [y] (some rest) hv hy hb hl h1 h2 ?_ hc;unfold jl;rw[List.getElem?_cons_zero,Option.getD_some,if_neg (by simp),if_pos (by rw[List.length_cons];omega)]
def cc2{α:Type}(f h:α->Value):List α->List Value
 | []=>[]
 | x :: l=>f x :: h x :: cc2 f h l
section
variable {α:Type} {f h:α->Value}
theorem fJ(l:List α):(cc2 f h l).length=l.length*2:=by
 induction l with
 | nil=>rfl
 | cons x l ih=>rw[cc2,List.length_cons,List.length_cons,ih,List.length_cons];omega
theorem sI(l m:List α):cc2 f h (l++m)=cc2 f h l++cc2 f h m:=by
 induction l with
 | nil=>rfl
 | cons x l ih=>rw[List.cons_append,cc2,ih,cc2];rfl
theorem Sj(l:List α)(i:Nat)(hi:i<l.length):(cc2 f h l)[i*2]?=some (f l[i])/\(cc2 f h l)[i*2+1]?=some (h l[i]):=by
 induction l generalizing i with
 | nil=>simp at hi
 | cons x l ih=>
  cases i with
  | zero=>exact⟨rfl,rfl⟩
  | succ i=>
   have h1:=ih i (by simpa using hi);rw[cc2,show(i+1)*2=i*2+1+1 by omega];exact h1
theorem Sl(l:List α)(i:Nat)(x:α)(hi:i<l.length):((cc2 f h l).set (i*2) (f x)).set (i*2+1) (h x)=cc2 f h (l.set i x):=by
 induction l generalizing i with
 | nil=>simp at hi
 | cons y l ih=>
  cases i with
  | zero=>rfl
  | succ i=>
   have h1:=ih i (by simpa using hi);rw[cc2,show(i+1)*2=i*2+1+1 by omega,List.set_cons_succ,List.set_cons_succ,List.set_cons_succ,List.set_cons_succ,h1];rfl
theorem YE(l:List α)(k:Nat):cc2 f h (l.take k)=(cc2 f h l).take (k*2):=by
 induction l generalizing k with
 | nil=>simp[cc2]
 | cons x l ih=>
  cases k with
  | zero=>simp[cc2]
  | succ k=>
   rw[List.take_succ_cons,cc2,ih,cc2,show(k+1)*2=k*2+1+1 by omega,List.take_succ_cons,List.take_succ_cons]
end
def swp{α:Type}(d:α)(l:List α)(i j:Nat):List α:=(l.set i (l[j]?.getD d)).set j (l[i]?.getD d)
theorem oh{α:Type}(d:α)(l:List α)(i j:Nat):(swp d l i j).length=l.length:=by simp[swp]
section
variable {α:Type} {f h:α->Value} {w w':World} {g:Nat} {t:TypeId} {post:List Value}
theorem gy{l:List α}(hr:Row w g t (cc2 f h l++post))(i:Nat)(hi:i<l.length):w.cell? ⟨g,i*2,none⟩=some (f l[i])/\w.cell? ⟨g,i*2+1,none⟩=some (h l[i]):=by
 obtain⟨h1,h2⟩:=Sj (f:=f) (h:=h) l i hi;have hl:=fJ (f:=f) (h:=h) l;rw[hr.cell,hr.cell,List.getElem?_append_left (by omega),List.getElem?_append_left (by omega)];exact⟨h1,h2⟩
theorem Ml{l:List α}(hr:Row w g t (cc2 f h l++post))(i:Nat)(hi:i<l.length)(x:α):Row ((w.setCell ⟨g,i*2,none⟩ (f x)).setCell ⟨g,i*2+1,none⟩ (h x)) g t (cc2 f h (l.set i x)++post):=by
 have hl:=fJ (f:=f) (h:=h) l;have h1:=(hr.aT (i*2) (f x)).aT (i*2+1) (h x);rw[List.set_append_left _ _ (by omega),List.set_append_left _ _ (by rw[List.length_set];omega),Sl l i x hi]at h1;exact h1
theorem Mq{l:List α}{d:α}(hr:Row w g t (cc2 f h l++post))(i j:Nat)(hi:i<l.length)(hj:j<l.length) :
  Row ((((w.setCell ⟨g,i*2,none⟩ (f l[j])).setCell ⟨g,i*2+1,none⟩ (h l[j])).setCell ⟨g,j*2,none⟩ (f l[i])).setCell ⟨g,j*2+1,none⟩ (h l[i])) g t (cc2 f h (swp d l i j)++post):=by
 have h1:=Ml (Ml hr i hi l[j]) j (by simpa using hj) l[i];unfold swp;rw[List.getElem?_eq_getElem hi,List.getElem?_eq_getElem hj];exact h1
theorem kC(w:World)(g a b c d:Nat)(u v x y:Value):w.grownBy ((((w.setCell ⟨g,a,none⟩ u).setCell ⟨g,b,none⟩ v).setCell ⟨g,c,none⟩ x).setCell ⟨g,d,none⟩ y) (some g):=
 aB (aB (aB (aB (aj w (some g)) _ _) _ _) _ _) _ _
end
abbrev Nod:=Nat×Nat
def EX(t:Nod):Value:=.int .i64 (t.1:Int)
def EW(t:Nod):Value:=.int .i64 (t.2:Int)
def n2(l:List Nod):List Value:=cc2 EX EW l
namespace Bm
def lt2(a b:Nat×Nat):Prop:=a.1<b.1\/(a.1=b.1/\a.2<b.2)
instance (a b:Nat×Nat):Decidable (lt2 a b):=by unfold lt2;exact inferInstance
end Bm
theorem rT(A:Option Addr)(n c:Nat)(w:World):Calls prog 150 #[.slice A n c] w fun e w'=>e=.returned (.int .i64 (n:Int))/\w=w':=by
 go_enter func150,ntmps150
 go_wp2;go_ret;exact⟨rfl,rfl⟩
theorem Ql(g n c i j:Nat)(x y:Nod)(w:World)(hi:i<n)(hj:j<n)(h0:w.cell? ⟨g,i*2,none⟩=some (EX x)/\w.cell? ⟨g,i*2+1,none⟩=some (EW x))(h1:w.cell? ⟨g,j*2,none⟩=some (EX y)/\w.cell? ⟨g,j*2+1,none⟩=some (EW y)) :
  Calls prog 237 #[.slice (some ⟨g,0,none⟩) n c,.int .i64 (i:Int),.int .i64 (j:Int)] w fun e w'=>e=.returned (.bool (decide (lt2 x y)))/\Below w.heap.size w w':=by
 obtain⟨a,p⟩:=x;obtain⟨b,q⟩:=y;obtain⟨c0,c1⟩:=h0;obtain⟨k0,k1⟩:=h1;simp only[EX,EW]at c0 c1 k0 k1;obtain⟨r,hr⟩:∃r,r=decide (lt2 (a,p) (b,q)):=⟨_,rfl⟩;rw[<-hr];have Hr:=hid hr;clear hr;by_cases hab:a=b
 ·subst hab;have hd0:((a:Int) == (a:Int))=true:=by simp
  have Hf:Hid (decide (p<q)=r):=hid (by rw[Hr.out,decide_eq_decide];unfold lt2;simp);go_enter func237,ntmps237
  go_wp2_with fail
  go_quiet (fail)
  go_wp2_with fail
  go_quiet (fail)
  go_wp2;go_ret;exact⟨congrArg (fun x=>Ending.returned (Value.bool x)) Hf.out,below_drewN (below_drewN (Below.refl _ _) _) _⟩
 ·have hd0:((a:Int) == (b:Int))=false:=by simp;omega
  have Hf:Hid (decide (a<b)=r):=hid (by rw[Hr.out,decide_eq_decide];unfold lt2;simp;omega);go_enter func237,ntmps237
  go_wp2_with fail
  go_quiet (fail)
  go_wp2_with fail
  go_quiet (fail)
  go_wp2;go_ret;exact⟨congrArg (fun x=>Ending.returned (Value.bool x)) Hf.out,below_drewN (below_drewN (Below.refl _ _) _) _⟩
theorem Qn(g c i j:Nat)(L:List Nod)(post:List Value)(w:World)(hi:i<L.length)(hj:j<L.length)(hr:Row w g 215 (n2 L++post)) :
  Calls prog 240 #[.slice (some ⟨g,0,none⟩) L.length c,.int .i64 (i:Int),.int .i64 (j:Int)] w fun e w'=>e=.returned (.tuple #[])/\Row w' g 215 (n2 (swp (0,0) L i j)++post)/\w.grownBy w' (some g):=by
 obtain⟨c0,c1⟩:=gy (f:=EX) (h:=EW) hr i hi;obtain⟨k0,k1⟩:=gy (f:=EX) (h:=EW) hr j hj;have f0:=hr.free (i*2);have f1:=hr.free (i*2+1);have f2:=hr.free (j*2);have f3:=hr.free (j*2+1);have hs:=Mq (f:=EX) (h:=EW) (d:=(0,0)) hr i j hi hj;have Hs:=hid hs;clear hs hr;generalize swp (0,0) L i j=L2 at *;simp only[EX,EW]at c0 c1 k0 k1 Hs;generalize L[i].1=a at *;generalize L[i].2=p at *;generalize L[j].1=b at *;generalize L[j].2=q at *;obtain⟨v1,hy1⟩:=cell?_setCell_some (w:=w) (p:=⟨g,i*2,none⟩) (x:=.int .i64 (b:Int)) (q:=⟨g,j*2,none⟩) k0;obtain⟨v2,hy2⟩:=cell?_setCell_some (w:=w) (p:=⟨g,i*2,none⟩) (x:=.int .i64 (b:Int)) (q:=⟨g,j*2+1,none⟩) k1;obtain⟨v3,hy3⟩:=cell?_setCell_some (w:=w.setCell ⟨g,i*2,none⟩ (.int .i64 (b:Int))) (p:=⟨g,i*2+1,none⟩) (x:=.int .i64 (q:Int)) (q:=⟨g,j*2+1,none⟩) hy2;clear hy2;go_enter func240,ntmps240
 go_wp2_with fail
 go_region
 all_goals (try go_wp2)
 all_goals go_end0
 all_goals exact⟨rfl,Hs.out,bf (kC _ _ _ _ _ _ _ _ _ _)⟩
theorem Jt(name:String)(i f:Nat)(p n c:Nat)(A:Option Addr)(w:World)(h:w.cell? ⟨p,0,none⟩=some (.slice A n c))
  (h1:∀w,(typeInfo 212).run prog w=.ok prog.types[212]! w)
  (h2:(prog.types[212]!).methods.find? (fun m=>m.name == name)=some ((prog.types[212]!).methods[i]!))
  (hp:((prog.types[212]!).methods[i]!).path=#[]) (hf:((prog.types[212]!).methods[i]!).func=some (f,false))
  (hs:∀s w,(Builtin.ssaWrapNilChk_ #[212] 212 #[.pointer (some ⟨p,0,none⟩),strVal "",strVal s]).run prog w=.ok (.pointer (some ⟨p,0,none⟩)) w) :
  (method 403 212 (.pointer (some ⟨p,0,none⟩)) name).run prog w=.ok (f,.slice A n c) w:=by
 rw[method];simp only[Sem.run_bind,h1,Result.andThen_ok,h2,hp,hf,follow,receiverAt,underlying,Sem.run_pure,Place.get];simp[loadVar,isAgg,underlying,underlying252,underlying212,h,Result.andThen,hs,asAddr]
theorem Ju:∀w,(typeInfo 212).run prog w=.ok prog.types[212]! w:=fun _=>by kernel_rfl
theorem adn(p n c:Nat)(A:Option Addr)(w:World)(h:w.cell? ⟨p,0,none⟩=some (.slice A n c)):(method 403 212 (.pointer (some ⟨p,0,none⟩)) "Len").run prog w=.ok (150,.slice A n c) w:=
 Jt "Len" 0 150 p n c A w h Ju (by kernel_rfl) (by kernel_rfl) (by kernel_rfl) (fun _ _=>by kernel_rfl)
theorem xQ(p n c:Nat)(A:Option Addr)(w:World)(h:w.cell? ⟨p,0,none⟩=some (.slice A n c)):(method 403 212 (.pointer (some ⟨p,0,none⟩)) "Less").run prog w=.ok (237,.slice A n c) w:=
 Jt "Less" 1 237 p n c A w h Ju (by kernel_rfl) (by kernel_rfl) (by kernel_rfl) (fun _ _=>by kernel_rfl)
theorem xR(p n c:Nat)(A:Option Addr)(w:World)(h:w.cell? ⟨p,0,none⟩=some (.slice A n c)):(method 403 212 (.pointer (some ⟨p,0,none⟩)) "Swap").run prog w=.ok (240,.slice A n c) w:=
 Jt "Swap" 4 240 p n c A w h Ju (by kernel_rfl) (by kernel_rfl) (by kernel_rfl) (fun _ _=>by kernel_rfl)
theorem afT(p:Nat)(w:World):(method 403 212 (.pointer (some ⟨p,0,none⟩)) "Push").run prog w=.ok (239,.pointer (some ⟨p,0,none⟩)) w:=by kernel_rfl
theorem ajE(p:Nat)(w:World):(method 403 212 (.pointer (some ⟨p,0,none⟩)) "Pop").run prog w=.ok (238,.pointer (some ⟨p,0,none⟩)) w:=by kernel_rfl
structure jD(w:World)(base p g cap:Nat)(L:List Nod):Prop where
 IX:base<=p
 IW:base<=g
 fits:L.length<=cap
 most:cap<=maxLen
 var:Row w p 252 [.slice (some ⟨g,0,none⟩) L.length cap]
 row:∃post,post.length+L.length*2=cap*2/\Row w g 215 (n2 L++post)
structure iO(base:Nat)(w w':World):Prop where
 bel:Below base w w'
 rows:∀(b:Nat) (t:TypeId) (cs:List Value),t≠252->t≠215->Row w b t cs->Row w' b t cs
section
variable {w w' w'':World} {base p g cap:Nat} {L:List Nod}
theorem iO.trans(h:iO base w w')(h':iO base w' w''):iO base w w'':=⟨h.bel.trans h'.bel,fun b t cs h1 h2 h3=>h'.rows b t cs h1 h2 (h.rows b t cs h1 h2 h3)⟩
theorem iO.below(h:Below w.heap.size w w')(hb:base<=w.heap.size):iO base w w':=⟨h.mono hb,fun _ _ _ _ _ hr=>aL hr h⟩
theorem iO.grown{t:TypeId}{cs:List Value}{b:Nat}(h:w.grownBy w' (some b))(hr:Row w b t cs)(ht:t=252\/t=215)(hb:base<=b):iO base w w':=
 ⟨below_grown h hb (Nat.le_trans hb (Nat.le_of_lt hr.lt)),fun b' t' cs' h1 h2 hr'=>hr'.keep (h.block b' hr'.lt (fun e=>by
  injection e with e
  subst e;unfold Row at hr hr';rw[hr]at hr';injection hr' with hr'
  injection hr' with _ e
  rcases ht with rfl | rfl
  ·exact h1 e.symm
  ·exact h2 e.symm))⟩
structure cO(base p g:Nat)(w w':World):Prop where
 bel:Below base w w'
 blk:∀b,b<w.heap.size->b≠p->b≠g->w'.heap[b]?=w.heap[b]?
theorem cO.refl(base p g:Nat)(w:World):cO base p g w w:=⟨Below.refl _ _,fun _ _ _ _=>rfl⟩
theorem cO.trans(h:cO base p g w w')(h':cO base p g w' w''):cO base p g w w'':=
 ⟨h.bel.trans h'.bel,fun b h1 h2 h3=>(h'.blk b (Nat.lt_of_lt_of_le h1 h.bel.size) h2 h3).trans (h.blk b h1 h2 h3)⟩
theorem cO.below(h:Below w.heap.size w w')(hb:base<=w.heap.size):cO base p g w w':=⟨h.mono hb,fun b hb _ _=>h.block b hb⟩
theorem cO.grown{b:Nat}(h:w.grownBy w' (some b))(hlt:b<w.heap.size)(ht:b=p\/b=g)(hb:base<=b):cO base p g w w':=
 ⟨below_grown h hb (Nat.le_trans hb (Nat.le_of_lt hlt)),fun b' h1 h2 h3=>h.block b' h1 (fun e=>by
  injection e with e
  rcases ht with h | h
  ·exact h2 (e.trans h)
  ·exact h3 (e.trans h))⟩
theorem cO.kept(h:cO base p g w w')(hp:jD w base p g cap L):iO base w w':=by
 refine⟨h.bel,fun b t cs h1 h2 hr=>hr.keep (h.blk b hr.lt ?_ ?_)⟩
 ·rintro rfl;have hv:=hp.var;unfold Row at hv hr;rw[hr]at hv;injection hv with hv
  injection hv with _ e
  exact h1 e
 ·rintro rfl;obtain⟨_,_,hv⟩:=hp.row;unfold Row at hv hr;rw[hr]at hv;injection hv with hv
  injection hv with _ e
  exact h2 e
theorem jD.ne(h:jD w base p g cap L):p≠g:=by
 obtain⟨post,_,hr⟩:=h.row;rintro rfl;have hv:=h.var;unfold Row at hr hv;rw[hr]at hv;injection hv with hv
 injection hv with _ e
 exact absurd e (by decide)
theorem jD.below(h:jD w base p g cap L)(hb:Below w.heap.size w w'):jD w' base p g cap L:=by
 obtain⟨post,h1,hr⟩:=h.row;exact⟨h.IX,h.IW,h.fits,h.most,aL h.var hb,post,h1,aL hr hb⟩
theorem jD.same{L':List Nod}(h:jD w base p g cap L)(hl:L'.length=L.length)(hg:w.grownBy w' (some g)){post:List Value}(hp:post.length+L.length*2=cap*2)(hr:Row w' g 215 (n2 L'++post)):jD w' base p g cap L':=
 ⟨h.IX,h.IW,by rw[hl];exact h.fits,h.most,by rw[hl];exact h.var.keep (hg.block p h.var.lt (fun e=>by injection e with e;exact h.ne e)),post,by rw[hl];exact hp,hr⟩
theorem jD.cell(h:jD w base p g cap L):w.cell? ⟨p,0,none⟩=some (.slice (some ⟨g,0,none⟩) L.length cap):=h.var.cell 0
theorem jD.own(h:jD w base p g cap L):w.ownsRow base 215 2 (.slice (some ⟨g,0,none⟩) L.length cap) L.length (n2 L):=by
 obtain⟨post,h1,hr⟩:=h.row;have hl:=fJ (f:=EX) (h:=EW) L;refine⟨hl,.inr ⟨g,cap,(n2 L++post).toArray,rfl,h.IW,hr,h.fits,h.most,?_,?_⟩⟩
 ·rw[List.size_toArray,List.length_append];unfold n2;omega
 ·rw[List.toList_toArray,List.take_left' (by exact hl)]
theorem Jr(hp:Row w p 252 [.slice (some ⟨g,0,none⟩) L.length cap])(hb:base<=p)(h:w.ownsRow base 215 2 (.slice (some ⟨g,0,none⟩) L.length cap) L.length (n2 L)):jD w base p g cap L:=by
 have hl:=fJ (f:=EX) (h:=EW) L;rcases h.2 with⟨h1,_⟩ | ⟨g',cap',cur,e,hb2,hg,hnc,hcm,hcs,ht⟩
 ·cases h1
 ·injection e with e1 _ e3
  injection e1 with e1
  injection e1 with e1
  subst e1 e3;refine⟨hb,hb2,hnc,hcm,hp,cur.toList.drop (L.length*2),?_,?_⟩
  ·have hcl:cur.toList.length=cur.size:=Array.length_toList;rw[List.length_drop];omega
  ·unfold Row;rw[<-ht,List.take_append_drop,Array.toArray_toList];exact hg
end
def fk0(t:Int×Int):Value:=.int .i64 t.1
def fk1(t:Int×Int):Value:=.int .i64 t.2
def fkc(F:List (Int×Int)):List Value:=cc2 fk0 fk1 F
structure FT(w:World)(base g cap:Nat)(F:List (Int×Int)):Prop where
 low:base<=g
 fits:F.length<=cap
 most:cap<=maxLen
 row:∃post,post.length+F.length*2=cap*2/\Row w g 263 (fkc F++post)
theorem sP(F:List (Int×Int)):(fkc F).length=F.length*2:=fJ F
section
variable {w w':World} {base g cap:Nat} {F:List (Int×Int)}
theorem FT.lt(h:FT w base g cap F):g<w.heap.size:=by
 obtain⟨post,_,hr⟩:=h.row;exact hr.lt
theorem FT.keep{row:Option Nat}(h:FT w base g cap F)(hg:w.grownBy w' row)(hne:row≠some g):FT w' base g cap F:=by
 obtain⟨post,h1,hr⟩:=h.row;exact⟨h.low,h.fits,h.most,post,h1,hr.keep (hg.block g hr.lt (fun e=>hne e.symm))⟩
theorem FT.below(h:FT w base g cap F)(hb:Below w.heap.size w w'):FT w' base g cap F:=h.keep (row:=none) (ak hb none) (by simp)
theorem FT.cell(h:FT w base g cap F){a b:Nat}(ha:a<F.length)(hb:b<2):w.cell? ⟨g,a*2+b,none⟩=some (.int .i64 (nP F a b)):=by
 obtain⟨post,_,hr⟩:=h.row;obtain⟨h1,h2⟩:=gy (f:=fk0) (h:=fk1) hr a ha;unfold nP;rw[List.getElem?_eq_getElem ha,Option.getD_some];rcases Nat.lt_or_ge b 1 with e | e
 ·obtain rfl:b=0:=by omega
  exact h1
 ·obtain rfl:b=1:=by omega
  exact h2
theorem FT.free(h:FT w base g cap F)(i:Nat):w.frozen? ⟨g,i,none⟩=false:=by
 obtain⟨post,_,hr⟩:=h.row;exact hr.free i
theorem Sk{α:Type}{f h:α->Value}(l:List α)(i:Nat)(x:α)(hi:i<l.length) :
  (h x=h l[i]->(cc2 f h l).set (i*2) (f x)=cc2 f h (l.set i x))/\(f x=f l[i]->(cc2 f h l).set (i*2+1) (h x)=cc2 f h (l.set i x)):=by
 have e:=Sl (f:=f) (h:=h) l i x hi;obtain⟨g1,g2⟩:=Sj (f:=f) (h:=h) l i hi;have hl:=fJ (f:=f) (h:=h) l;constructor
 ·intro hx;rw[<-e];apply List.ext_getElem?
  intro j;rw[List.getElem?_set];by_cases hj:i*2+1=j
  ·subst hj;rw[List.getElem?_set_self (by rw[List.length_set];omega),if_neg (by omega),g2,hx]
  ·rw[List.getElem?_set_ne hj,List.getElem?_set]
 ·intro hx;rw[<-e];congr 1
  apply List.ext_getElem?
  intro j;by_cases hj:i*2=j
  ·subst hj;rw[List.getElem?_set_self (by omega),g1,hx]
  ·rw[List.getElem?_set_ne hj]
theorem aeG(F:List (Int×Int))(a b:Nat)(z:Int)(ha:a<F.length)(hb:b<2):(fkc F).set (a*2+b) (.int .i64 z)=fkc (Mx F a b z):=by
 unfold Mx;rw[List.getElem?_eq_getElem ha,Option.getD_some];rcases Nat.lt_or_ge b 1 with e | e
 ·obtain rfl:b=0:=by omega
  exact(Sk (f:=fk0) (h:=fk1) F a (z,F[a].2) ha).1 rfl
 ·obtain rfl:b=1:=by omega
  exact(Sk (f:=fk0) (h:=fk1) F a (F[a].1,z) ha).2 rfl
theorem FT.set(h:FT w base g cap F){a b:Nat}(z:Int)(ha:a<F.length)(hb:b<2):FT (w.setCell ⟨g,a*2+b,none⟩ (.int .i64 z)) base g cap (Mx F a b z):=by
 obtain⟨post,h1,hr⟩:=h.row;have hs:=hr.aT (a*2+b) (.int .i64 z);rw[List.set_append_left _ _ (by rw[sP];omega),aeG F a b z ha hb]at hs;exact⟨h.low,by rw[bZ];exact h.fits,h.most,post,by rw[bZ];exact h1,hs⟩
theorem FT.own(h:FT w base g cap F):w.ownsRow base 263 2 (.slice (some ⟨g,0,none⟩) F.length cap) F.length (fkc F):=by
 obtain⟨post,h1,hr⟩:=h.row;have hl:=sP F;refine⟨hl,.inr ⟨g,cap,(fkc F++post).toArray,rfl,h.low,hr,h.fits,h.most,?_,?_⟩⟩
 ·rw[List.size_toArray,List.length_append];omega
 ·rw[List.toList_toArray,List.take_left' hl]
theorem Er{n:Nat}(hn:n=F.length)(h:w.ownsRow base 263 2 (.slice (some ⟨g,0,none⟩) n cap) n (fkc F)):FT w base g cap F:=by
 subst hn;have hl:=sP F;rcases h.2 with⟨h1,_⟩ | ⟨g',cap',cur,e,hb2,hg,hnc,hcm,hcs,ht⟩
 ·cases h1
 ·injection e with e1 _ e3
  injection e1 with e1
  injection e1 with e1
  subst e1 e3;refine⟨hb2,hnc,hcm,cur.toList.drop (F.length*2),?_,?_⟩
  ·have hcl:cur.toList.length=cur.size:=Array.length_toList;rw[List.length_drop];omega
  ·unfold Row;rw[<-ht,List.take_append_drop,Array.toArray_toList];exact hg
theorem Zg(F:List (Int×Int)):fkc F++[.int .i64 0,.int .i64 0]=fkc (F++[(0,0)]):=by
 unfold fkc;rw[sI];rfl
end
theorem TW:(prog.info? 263).map (fun i=>(i.zero,i.size,i.bytes))=some (some (.agg #[.int .i64 0,.int .i64 0]),2,16):=by kernel_rfl
theorem Zh:(madeCells #[Value.int .i64 0,.int .i64 0] 2).toList=fkc [(0,0)]:=by kernel_rfl
end Go.Proofs.YtaebnkeddcbmkaaGreat
