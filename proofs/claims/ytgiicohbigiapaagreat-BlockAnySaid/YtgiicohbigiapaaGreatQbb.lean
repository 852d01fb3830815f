/- Contracts. -/
import Derived.Test.YtgiicohbigiapaaGreatQba
import Derived.Test.YtgiicohbigiapaaGreatQaz
import Derived.Test.YtgiicohbigiapaaGreatQz2
import Derived.Test.YtgiicohbigiapaaGreatQz1
import Derived.Test.YtgiicohbigiapaaGreatQz0
set_option maxHeartbeats 4000000
set_option maxRecDepth 100000
open Go.Proofs.Tryz Go.Proofs.YtgiicohbigiapaaGreat.ao List Nat Option
namespace Go.Proofs.YtgiicohbigiapaaGreat
open Go.RowKit
def AI(w w':ai)(b:Nat)(e:Ending)(o:Option (ae)):Prop:=
 ∃x ok st,e=.returned (.tuple #[.string (strOf x),.bool ok])/\(ok=true->bJ w' b st)/\w.grownBy w' (some b)/\o=if ok=true/\st=some []then some x else none
theorem Ti(D:ae)(n:Nat)(bs:ae):gJ D 2 n bs=match jv bs (n:Int)with
  | none=>none
  | some t=>match iM (bs.drop t.2) (n:Int)with
   | none=>none
   | some q=>if t.2+q.2=bs.length/\(iV D t.1 (q.1.map iu) n).2=0/\(iV D t.1 (q.1.map iu) n).1.length=n then some (iV D t.1 (q.1.map iu) n).1 else none:=by
 unfold gJ;rw[ay (by decide),ay (by decide)];rfl
theorem acd(l:List ao.dC)(h:∀s∈l,s.1<=65538/\s.2.1<=65538/\s.2.2<=65538):xa (l.map iu):=λs ap=>by
 obtain⟨t,aC,rfl⟩:=List.mem_map.1 ap;have:=h t aC;exact⟨⟨by show _<=(t.1:Int);omega,by show(t.1:Int)<=_;omega⟩,⟨by show _<=(t.2.1:Int);omega,by show(t.2.1:Int)<=_;omega⟩,⟨by show _<=(t.2.2:Int);omega,by show(t.2.2:Int)<=_;omega⟩⟩
theorem SW(D L:ae)(l:List fc)(n:Nat):(iV D L l n).2<=5:=by
 unfold iV;split
 .exact zero_le _
 .rcases Oj (a:=D.length) (lim:=n) l 0 L.length with h | h | h
  .rw[h];exact zero_le _
  .rw[h];decide
  .rw[h];decide
theorem SV(D L:ae)(l:List fc)(n:Nat):(iV D L l n).1.length<=n:=by
 unfold iV;split
 .next h=>
  have h1:=YW h;have af:=PY h1 (show D.length=D.length+0 by omega);have aq:=(EK h1).2;dsimp only;rw[cC,af];omega
 .exact zero_le _
theorem afC(b n:Nat)(D bs:ae)(w:ai)(hl:bs.length<=1000)(av:∀x∈bs,x<256)(cR:D.length<=1000)(hDlt:∀x∈D,x<256)(az:n<=512)(h:bJ w b (some bs)) :
  Calls prog 43 #[.pointer (some ⟨b,0,none⟩),.int .i64 n,.string (strOf D)] w λe w'=>AI w w' b e (gJ D 2 n bs):=by
 have H1:=I (amm b bs (n:Int) w hl av ⟨by omega,by omega⟩ h);have aI:=Ti D n bs;clear h;cases aG:jv bs (n:Int)with
 | none=>
  rw[aG]at H1 aI;dsimp only at aI;rw[aI];clear aI aG hl av cR hDlt az;go_enter func43,ntmps43
  go_wp2_with fail
  refine H1.out.mono ?_;rintro e au ⟨rfl,aZ⟩;go_wp2;go_ret2;exact⟨[],false,none,rfl,λh=>(by cases h),aZ,rfl⟩
 | some t=>
  obtain⟨L,j⟩:=t;have ar:=T5 bs n (L,j) av aG;have nU:=T6 bs n (L,j) av aG;dsimp only at ar nU;rw[aG]at H1 aI;dsimp only at aI;have kz:(bs.drop j).length<=1000:=by rw[cC];omega
  have dk:=I (λW hc=>aoe b (bs.drop j) (n:Int) W (by omega) (by omega) (by omega) (jw av j) hc);cases ap:iM (bs.drop j) (n:Int)with
  | none=>
   rw[ap]at dk aI;dsimp only at aI;rw[aI];clear aI ap aG hl av cR hDlt az ar nU kz;go_enter func43,ntmps43
   go_wp2_with fail
   refine H1.out.mono ?_;rintro e au ⟨⟨rfl,bL⟩,aZ⟩;have gD:=I (dk.out au bL);have cv:=I aZ;clear bL aZ H1 dk;go_wp2_with fail
   refine gD.out.mono ?_;rintro e aB ⟨⟨A,c,rfl⟩,bl⟩;go_wp2;go_ret2;exact⟨[],false,none,rfl,λh=>(by cases h),ei cv.out bl,rfl⟩
  | some q=>
   obtain⟨l,i⟩:=q;have ax:=PA (bs.drop j) n (l,i) ap;have jj:=acd l (aaL (bs.drop j) n (l,i) ap);rw[ap]at dk aI;rw[cC]at ax;dsimp only at ax aI;have uV:=I (λW A c aj=>ak7 D L A c (l.map iu) (n:Int) n W (by omega) (by omega) (by rw[cQ];omega) ⟨by omega,by omega⟩ (by omega) (by omega) hDlt nU jj (PT aj));have NW:=SW D L (l.map iu) n;have NZ:=SV D L (l.map iu) n;rw[cQ]at uV;generalize iV D L (l.map iu) n=Z at *;obtain⟨X,z⟩:=Z;dsimp only at aI uV NW NZ;have bI:=cZ X;have dw:Hid (∀W,bJ W b (some ((bs.drop j).drop i))->w.grownBy W (some b)->AI w W b (.returned (.tuple #[.string (strOf X),.bool (decide (z=0) && decide (X.length=n))])) (gJ D 2 n bs)):=I (λW hc aD=>by
    refine⟨X,_,some ((bs.drop j).drop i),rfl,λ_=>hc,aD,?_⟩;rw[aI,drop_drop];by_cases aO:z=0/\X.length=n
    .by_cases pI:j+i=bs.length
     .rw[aA ⟨pI,aO.1,aO.2⟩,aA ⟨by simp[aO.1,aO.2],by rw[drop_eq_nil_of_le (by omega)]⟩]
     .rw[ay (λc=>pI c.1),ay (λc=>pI (by
       have h1:=List.drop_eq_nil_iff.1 (Option.some.inj c.2);omega))]
    .rw[ay (λc=>aO c.2),ay (λc=>aO (by simpa using c.1))])
   clear aI ap aG hl av cR hDlt ar nU kz ax jj;go_enter func43,ntmps43
   go_wp2_with fail
   refine H1.out.mono ?_;rintro e au ⟨⟨rfl,bL⟩,aZ⟩;have gD:=I (dk.out au bL);have cv:=I aZ;clear bL aZ H1 dk;go_wp2_with fail
   refine gD.out.mono ?_;rintro e aB ⟨⟨⟨A,c,rfl,aj⟩,db⟩,bl⟩;have eA:=I (uV.out aB A c aj);have cN:=I (ei cv.out bl);have gp:=I db;clear aj db bl cv uV gD;dsimp only;generalize strOf X=rF at *;go_wp2_with fail
   refine eA.out.mono ?_;rintro e a1 ⟨rfl,bz⟩;have hend:=dw.out a1 (gp.out.below bz) (ei cN.out (dr bz _));clear eA bz cN gp dw;by_cases aO:z=0
   .subst aO;have xg:((X.length:Int) == (n:Int))=decide (X.length=n):=by
     by_cases h:X.length=n
     .rw[h,bG rfl];simp
     .rw[bF h,beq_eq_false_iff_ne];omega
    have Lt:decide ((X.length:Int)=n)=decide (X.length=n):=decide_eq_decide.2 (by omega);rw[bG rfl,Bool.true_and]at hend;go_wp2;go_ret2;exact hend
   .have tO:((z:Int) == 0)=false:=cz
    have ag5:decide ((z:Int)=0)=false:=aT;rw[bF aO,Bool.false_and]at hend;go_wp2;go_ret2;exact hend
theorem aoQ(n:Nat)(bs:ae):(if (eR n (some bs)).2=some []then some (eR n (some bs)).1 else none)=if bs.length=n then some bs else none:=by
 by_cases h:n<=bs.length
 .rw[E4 n bs h];by_cases af:bs.length=n
  .rw[aA af,aA (by rw[drop_eq_nil_of_le (by omega)])];dsimp only;rw[take_of_length_le (by omega)]
  .rw[ay af,ay (λc=>af (by have:=List.drop_eq_nil_iff.1 (Option.some.inj c);omega))]
 .rw[E3 n bs h,ay (by simp),ay (by omega)]
theorem afK(b a6 n s:Nat)(D bs:ae)(w:ai)(h:bJ w b (some bs)) :
  Calls prog 20 #[.pointer (some ⟨b,0,none⟩),.agg #[.int .u64 0,.int .i64 a6,.int .i64 n,.int .u64 s],.string (strOf D)] w λe w'=>AI w w' b e (gJ D 0 n bs):=by
 have h7:=h.below ((Below.refl w.heap.size w).alloc bh (.cells #[.int .u64 0,.int .i64 a6,.int .i64 n,.int .u64 s] 49));have fA:=I (iD (dl w (some b)) (.cells #[.int .u64 0,.int .i64 a6,.int .i64 n,.int .u64 s] 49));have aj:=tc b (some bs) (n:Int) _ h7;rw[cY]at aj;have he:gJ D 0 n bs=if true=true/\(eR n (some bs)).2=some []then some (eR n (some bs)).1 else none:=by
  simp only[true_and];rw[aoQ n bs];rfl
 have eS:=I he;have aU:=I aj;clear h h7 aj he;generalize eR n (some bs)=R at *;obtain⟨x,st⟩:=R;dsimp only at aU eS;generalize strOf D=nB at *;have hP:=I (λe (h:e=Ending.returned (.tuple #[.string (strOf x),.bool true]))=>h);go_enter func20,ntmps20
 go_wp2_with fail
 refine aU.out.mono ?_;rintro e au ⟨rfl,bL,aZ⟩;go_wp2;go_ret2;exact⟨x,true,st,rfl,λ_=>bL,ei fA.out aZ,by simpa using eS.out⟩
theorem afM(b a6 n s:Nat)(D bs:ae)(w:ai)(hl:bs.length<=1000)(av:∀x∈bs,x<256)(cR:D.length<=1000)(hDlt:∀x∈D,x<256)(az:n<=512)(h:bJ w b (some bs)) :
  Calls prog 20 #[.pointer (some ⟨b,0,none⟩),.agg #[.int .u64 2,.int .i64 a6,.int .i64 n,.int .u64 s],.string (strOf D)] w λe w'=>AI w w' b e (gJ D 2 n bs):=by
 have h7:=h.below ((Below.refl w.heap.size w).alloc bh (.cells #[.int .u64 2,.int .i64 a6,.int .i64 n,.int .u64 s] 49));have fA:=I (iD (dl w (some b)) (.cells #[.int .u64 2,.int .i64 a6,.int .i64 n,.int .u64 s] 49));have aU:=I (afC b n D bs _ hl av cR hDlt az h7);clear h h7 hl av cR hDlt az;generalize strOf D=nB at *;go_enter func20,ntmps20
 go_wp2_with fail
 refine aU.out.mono ?_;rintro e au ⟨x,ok,st,rfl,bL,aZ,he⟩;go_wp2;go_ret2;exact⟨x,ok,st,rfl,bL,ei fA.out aZ,he⟩
theorem afL(b a6 n s:Nat)(D bs:ae)(w:ai)(av:∀x∈bs,x<256)(az:n<=512)(h:bJ w b (some bs)) :
  Calls prog 20 #[.pointer (some ⟨b,0,none⟩),.agg #[.int .u64 1,.int .i64 a6,.int .i64 n,.int .u64 s],.string (strOf D)] w λe w'=>AI w w' b e (gJ D 1 n bs):=by
 have h7:=h.below ((Below.refl w.heap.size w).alloc bh (.cells #[.int .u64 1,.int .i64 a6,.int .i64 n,.int .u64 s] 49));have fA:=I (iD (dl w (some b)) (.cells #[.int .u64 1,.int .i64 a6,.int .i64 n,.int .u64 s] 49));have hrow:Row (w.alloc (.cells #[.int .u64 1,.int .i64 a6,.int .i64 n,.int .u64 s] 49)) w.heap.size 49 [.int .u64 1,.int .i64 a6,.int .i64 n,.int .u64 s]:=Row.new w 49 [.int .u64 1,.int .i64 a6,.int .i64 n,.int .u64 s];have da:=I hrow;have bO:=I h.lt;have aj:=λW (hc:bJ W b (some bs))=>tc b (some bs) 1 W hc
 rw[show(1:Int).toNat=1 from rfl]at aj;have hrep:∃R,(∀W,Calls prog 30 #[.string (strOf (eR 1 (some bs)).1),.int .i64 n] W λe w'=>e=.returned (.string (strOf R))/\Below W.heap.size W w') /\
   gJ D 1 n bs=if true=true/\(eR 1 (some bs)).2=some []then some R else none:=by
  cases bs with
  | nil=>exact⟨[],λW=>aa2 n W (by omega),rfl⟩
  | cons x u=>
   refine⟨List.replicate n x,λW=>PJ x n W (by omega),?_⟩;cases u with
   | nil=>rfl
   | cons y u=>rfl
 obtain⟨R,hrep,he⟩:=hrep;have Hrep:=I hrep;have eS:=I he;have aU:=I aj;have py:=I h7;clear h h7 aj he hrep hrow av az;generalize eR 1 (some bs)=Q at *;obtain⟨x,st⟩:=Q;dsimp only at aU eS Hrep;generalize strOf D=nB at *;go_enter func20,ntmps20
 go_upto_region 5 with fail
 generalize w.alloc (.cells #[.int .u64 1,.int .i64 a6,.int .i64 n,.int .u64 s] 49)=dv at *;have lY:=I (show dv.cell? ⟨w.heap.size,2,none⟩=some (.int .i64 n)from da.out.cell 2);refine wp_region_held_drew (S:=(λW:ai=>W.cell? ⟨w.heap.size,2,none⟩=some (.int .i64 n))) (by kernel_rfl) (by exact lY) (λhHeld=>?_);refine ch 0 {dst:=some 18,op:=.move (.tmp 0),type:=46,pos:= "block.go:126",after:=#[],guard:=none} ?_ rfl (Or.inl ⟨by rfl,?_⟩) ?_;rotate_left
 ·(intro w hSw;(try dsimp only at hSw);go_simp;(try with_reducible rfl))
 try simp only[bx]
 refine ch 2 {dst:=some 20,op:=.fieldAddr 49 (.tmp 4) 2,type:=0,pos:= "block.go:126",after:=#[],guard:=none} ?_ rfl (Or.inl ⟨by rfl,?_⟩) ?_;rotate_left
 ·(intro w hSw;(try dsimp only at hSw);go_simp;(try with_reducible rfl))
 try simp only[bx]
 refine ch 3 {dst:=some 21,op:=.load 3 (.tmp 20),type:=3,pos:= "block.go:126",after:=#[{on:=2,ground:=.data}],guard:=none} ?_ rfl (Or.inl ⟨by rfl,?_⟩) ?_;rotate_left
 ·(intro w hSw;(try dsimp only at hSw);go_simp;(try with_reducible rfl))
 try simp only[bx]
 refine iq 1 {dst:=some 19,op:=.call {callee:=.value (.func 42),args:=#[.tmp 18,.const (.int .i64 1)],argTypes:=#[46,3]},type:=9,pos:= "block.go:126",after:=#[{on:=0,ground:=.data}],guard:=none} rfl (λK hK=>?_);go_simp
 (go_at_call 42;refine(aU.out _ py.out.drew).mono ?_;rintro e au ⟨rfl,bL,aZ⟩;have FA:=I (ei (nR fA) aZ);have kc:=I bL;have oc:=I (show au.cell? ⟨w.heap.size,2,none⟩=some (.int .i64 n)from(da.out.keep (w':=au) (aZ.block w.heap.size da.out.lt (by have:=bO.out;simp;omega))).cell 2);clear bL aZ)
 go_simp;refine hK.out _ _ (by exact oc) (λhHeld=>?_);clear hK K
 try simp only[bx]
 refine iq 4 {dst:=some 22,op:=.call {callee:=.value (.func 30),args:=#[.tmp 19,.tmp 21],argTypes:=#[9,3]},type:=9,pos:= "block.go:126",after:=#[{on:=1,ground:=.data},{on:=3,ground:=.data},{on:=1,ground:=.chain}],guard:=none} rfl (λK hK=>?_);go_simp
 (go_at_call 30;refine(Hrep.out _).mono ?_;rintro e aB ⟨rfl,aI⟩;have mY:=I (ei FA.out (dr aI (some b)));have uF:=I (kc.out.below aI);have acv:=I ((aI.cell (p:=⟨w.heap.size,2,none⟩) (World.block_lt_of_cell? _ _ oc)).trans oc);clear aI)
 go_simp;refine hK.out _ _ (by exact acv) (λhHeld=>?_);clear hK K
 try simp only[bx]
 refine ch 5 {dst:=some 6,op:=.assign (.tmp 22),type:=9,pos:= "block.go:126",after:=#[{on:=4,ground:=.data},{on:=4,ground:=.chain},{on:=0,ground:=.phase},{on:=1,ground:=.phase},{on:=2,ground:=.phase},{on:=3,ground:=.phase},{on:=4,ground:=.phase}],guard:=none} ?_ rfl (Or.inl ⟨by rfl,?_⟩) ?_;rotate_left
 ·(intro w hSw;(try dsimp only at hSw);go_simp;(try with_reducible rfl))
 try simp only[bx]
 refine ch 6 {dst:=some 7,op:=.assign (.const (.bool true)),type:=4,pos:= "block.go:126",after:=#[{on:=5,ground:=.chain},{on:=0,ground:=.phase},{on:=1,ground:=.phase},{on:=2,ground:=.phase},{on:=3,ground:=.phase},{on:=4,ground:=.phase},{on:=5,ground:=.phase}],guard:=none} ?_ rfl (Or.inl ⟨by rfl,?_⟩) ?_;rotate_left
 ·(intro w hSw;(try dsimp only at hSw);go_simp;(try with_reducible rfl))
 try simp only[bx]
 refine wpAnyH_done (by kernel_rfl) ?_ _;go_wp2;go_ret2;exact⟨R,true,st,rfl,λ_=>uF.out,mY.out,by simpa using eS.out⟩
theorem afN(b k a6 n s:Nat)(D bs:ae)(w:ai)(hk:k<3)(hl:bs.length<=1000)(av:∀x∈bs,x<256)(cR:D.length<=1000)(hDlt:∀x∈D,x<256)(az:n<=512)(h:bJ w b (some bs)) :
  Calls prog 20 #[.pointer (some ⟨b,0,none⟩),.agg #[.int .u64 k,.int .i64 a6,.int .i64 n,.int .u64 s],.string (strOf D)] w λe w'=>AI w w' b e (gJ D k n bs):=by
 rcases(by omega:k=0\/k=1\/k=2)with rfl | rfl | rfl
 .exact afK b a6 n s D bs w h
 .exact afL b a6 n s D bs w av az h
 .exact afM b a6 n s D bs w hl av cR hDlt az h
theorem Tj{D bs X:ae}{k n:Nat}(cR:∀x∈D,x<256)(cr:∀x∈bs,x<256)(h:gJ D k n bs=some X):∀x∈X,x<256:=by
 unfold gJ at h;split at h
 .split at h
  .injection h with h;subst h;exact cr
  .cases h
 .split at h
  .split at h
   .next h1=>
    injection h with h
    subst h;intro x ah;rw[(List.mem_replicate.1 ah).2,bH (by omega)];exact cr _ (b7 _)
   .cases h
  .split at h
   .cases h
   .next t aC=>
    split at h
    .cases h
    .next q _=>
     split at h
     .next hc=>
      injection h with h
      rw[<-h];unfold iV;split
      .exact jw (PZ _ _ _ cR (T6 bs n t cr aC)) _
      .intro x ah;cases ah
     .cases h
theorem S3(D bs:ae)(lim:Int)(w:ai)(hl:bs.length<=1000)(av:∀x∈bs,x<256)(cR:D.length<=1000)(hDlt:∀x∈D,x<256) :
  Calls prog 9 #[.string (strOf bs),.string (strOf D),.int .i64 lim] w λe w'=>e=.returned (.tuple #[.string (strOf (ii D bs lim).1),.int .i64 ((ii D bs lim).2:Int)])/\Below w.heap.size w w':=by
 have bX:=I (Lf bs w);have fB:=I (λW hc=>KX w.heap.size bs W (by omega) av hc);have F8:=I (λW k a6 n s at_ (hk:k<3) (az:n<=512) hc=>afN w.heap.size k a6 n s D (bs.drop at_) W hk (by rw[cC];omega) (jw av at_) cR hDlt az hc);have p9:=I (λk n at_ X (h:gJ D k n (bs.drop at_)=some X)=>Tj hDlt (jw av at_) h);obtain⟨V,bY⟩:∃V,V=ii D bs lim:=⟨_,rfl⟩;rw[<-bY];have pd:∀h,im bs=some h->h.1<3:=λh he=>by
  unfold im at he;split at he
  .cases he
  .split at he
   .cases he
   .next k r hk=>
    cases aC:qK r with
    | none=>rw[aC]at he;cases he
    | some t=>rw[aC]at he;injection he with he;rw[<-he];dsimp only;omega
 unfold ii at bY;clear hl av cR hDlt;generalize strOf bs=wj at *;generalize strOf D=nB at *;go_enter func9,ntmps9
 go_wp2_with fail
 refine bX.out.mono ?_;rintro e au ⟨rfl,bL,aH⟩;have aK:=I aH;have wJ:=I (fB.out au bL);clear bL aH bX fB;go_wp2_with fail
 refine wJ.out.mono ?_;rintro e aB ⟨aw,bl⟩;have eT:=I aK.out.size;have aV:=I (aK.out.trans (below_grown bl bh aK.out.size));have w4:=I bl.size;clear bl aK wJ;cases aG:im bs with
 | none=>
  rw[aG]at aw bY;obtain rfl:e=.returned (.tuple #[.agg #[.int .u64 0,.int .i64 0,.int .i64 0,.int .u64 0],.int .i64 3]):=aw;subst bY;clear aG pd F8 p9;have Ah:=I (λu=>aV.out.alloc aV.out.size u);clear aV;go_wp2;go_ret2;exact⟨rfl,Ah.out _⟩
 | some h=>
  obtain⟨k,a6,n,s,at_⟩:=h;have hk:=pd _ aG;rw[aG]at aw bY;obtain⟨rfl,db⟩:e=.returned (.tuple #[.agg #[.int .u64 k,.int .i64 a6,.int .i64 n,.int .u64 s],.int .i64 0])/\bJ aB w.heap.size (some (bs.drop at_)):=aw;dsimp only at bY hk;have hrow:Row (aB.alloc (.cells #[.int .u64 k,.int .i64 a6,.int .i64 n,.int .u64 s] 49)) aB.heap.size 49 [.int .u64 k,.int .i64 a6,.int .i64 n,.int .u64 s]:=Row.new aB 49 [.int .u64 k,.int .i64 a6,.int .i64 n,.int .u64 s];have da:=I hrow;have eZ:=I (aV.out.alloc aV.out.size (.cells #[.int .u64 k,.int .i64 a6,.int .i64 n,.int .u64 s] 49));have Rb:=I (db.below ((Below.refl aB.heap.size aB).alloc bh (.cells #[.int .u64 k,.int .i64 a6,.int .i64 n,.int .u64 s] 49)));have FY:=I (db.lt);clear aG pd db aV hrow;by_cases hbig:lim<(n:Int)\/512<n
  .rw[aA hbig]at bY;subst bY;have d1:decide (min lim 512<(n:Int))=true:=cl;clear F8 p9 hbig;go_wp2;go_ret2;exact⟨rfl,eZ⟩
  .rw[ay hbig]at bY;have d1:decide (min lim 512<(n:Int))=false:=aT;have aU:=I (F8.out _ k a6 n s at_ hk (by omega) Rb.out);have lY:=I (da.out.cell 3);have b2:=I (λX h=>p9.out k n at_ X h);have og:=I (λX (h:gJ D k n (bs.drop at_)=some X)=>du (Nat.le_of_eq (KW h)) (by omega:n<=512));clear F8 p9;have c0:=da.out.cell 0;have c1:=da.out.cell 1;have c2:=da.out.cell 2;have c3:=da.out.cell 3;simp only[dR,dU]at c0 c1 c2 c3;go_wp2_with fail
   clear c0 c1 c2 c3;generalize aB.alloc (.cells #[.int .u64 k,.int .i64 a6,.int .i64 n,.int .u64 s] 49)=dv at *;refine aU.out.mono ?_;rintro e a1 ⟨x,ok,st,rfl,lh,cs,he⟩;have hrow3:=da.out.keep (cs.block aB.heap.size da.out.lt (by have:=FY.out;simp;omega));have Cs:=I (show a1.cell? ⟨aB.heap.size,3,none⟩=some (.int .u64 s)from hrow3.cell 3);have bE:=I (eZ.out.trans (below_grown cs bh eZ.out.size));clear hrow3 cs eZ da Rb lY aU;cases ok with
   | false=>
    rw[he]at bY;simp only[Bool.false_eq_true,false_and,if_false]at bY;subst bY;clear he lh b2 og Cs;go_wp2;go_ret2;exact⟨rfl,bE⟩
   | true=>
    have dS:=I (ao8 w.heap.size st a1 (lh rfl));by_cases aQ:st=some []
    .rw[bG aQ]at dS;rw[aA ⟨rfl,aQ⟩]at he;rw[he]at bY;dsimp only at bY;have ah:=b2.out x he;have kF:=og.out x he;have AC:=I (λW=>aaY x W (by omega) ah);clear he lh b2 og aQ ah kF;go_wp2_with fail
     refine dS.out.mono ?_;rintro e bA ⟨rfl,rfl⟩;clear dS;go_upto_region 10 with fail
     refine wp_region_held_drew (S:=(λW:ai=>W.cell? ⟨aB.heap.size,3,none⟩=some (.int .u64 s))) (by kernel_rfl) (by exact Cs) (λhHeld=>?_);refine ch 0 {dst:=some 42,op:=.move (.tmp 11),type:=9,pos:= "block.go:70",after:=#[],guard:=none} ?_ rfl (Or.inl ⟨by rfl,?_⟩) ?_;rotate_left
     ·(intro w hSw;(try dsimp only at hSw);go_simp;(try with_reducible rfl))
     try simp only[bx]
     refine ch 2 {dst:=some 44,op:=.fieldAddr 49 (.tmp 9) 3,type:=0,pos:= "block.go:70",after:=#[],guard:=none} ?_ rfl (Or.inl ⟨by rfl,?_⟩) ?_;rotate_left
     ·(intro w hSw;(try dsimp only at hSw);go_simp;(try with_reducible rfl))
     try simp only[bx]
     refine ch 3 {dst:=some 45,op:=.load 31 (.tmp 44),type:=31,pos:= "block.go:70",after:=#[{on:=2,ground:=.data}],guard:=none} ?_ rfl (Or.inl ⟨by rfl,?_⟩) ?_;rotate_left
     ·(intro w hSw;(try dsimp only at hSw);go_simp;(try with_reducible rfl))
     try simp only[bx]
     refine iq 1 {dst:=some 43,op:=.call {callee:=.value (.func 22),args:=#[.tmp 42],argTypes:=#[9]},type:=31,pos:= "block.go:70",after:=#[{on:=0,ground:=.data}],guard:=none} rfl (λK hK=>?_);go_simp
     (go_at_call 22;refine(AC.out _).mono ?_;rintro e dG ⟨rfl,cL⟩;have mY:=I (bE.out.drew.trans (cL.mono bE.out.drew.size));have oc:=I ((cL.cell (p:=⟨aB.heap.size,3,none⟩) (World.block_lt_of_cell? _ _ Cs)).trans Cs);clear cL)
     go_simp;refine hK.out _ _ (by exact oc) (λhHeld=>?_);clear hK K
     try simp only[bx]
     refine ch 4 {dst:=some 46,op:=.binOp .neq 31 (.tmp 43) (.tmp 45) 31,type:=4,pos:= "block.go:70",after:=#[{on:=1,ground:=.data},{on:=3,ground:=.data}],guard:=none} ?_ rfl (Or.inl ⟨by rfl,?_⟩) ?_;rotate_left
     ·(intro w hSw;(try dsimp only at hSw);go_simp;(try with_reducible rfl))
     try simp only[bx]
     refine wpAnyH_done (by kernel_rfl) ?_ _;by_cases hsum:ao.sumOf x=s
     .rw[aA hsum]at bY;subst bY;rw[hsum];clear AC hsum;go_wp2;go_ret2;exact⟨rfl,mY⟩
     .rw[ay hsum]at bY;subst bY;have tO:((ao.sumOf x:Int) == (s:Int))=false:=cz
      clear AC;generalize ao.sumOf x=y at *;go_wp2;go_ret2;exact⟨rfl,mY⟩
    .rw[bF aQ]at dS;rw[ay (λc=>aQ c.2)]at he;rw[he]at bY;subst bY;clear he lh b2 og aQ Cs;go_wp2_with fail
     refine dS.out.mono ?_;rintro e bA ⟨rfl,rfl⟩;clear dS;go_wp2;go_ret2;exact⟨rfl,bE⟩
namespace ao
structure x7(D X:ae)(a6:Nat)(S:ae):Prop where
 lt:∀x∈S,x<256
 len:S.length<=X.length+16
 pos:0<S.length
 plain:S.length<=(hB 0 a6 X++X).length
 head:∃k a,0<a/\im S=some (k,a6,X.length,sumOf X,a)
 yes:∀lim:Int,(X.length:Int)<=lim->ii D S lim=(X,0)
 few:∀lim:Int,lim<(X.length:Int)->ii D S lim=([],5)
 cut:∀j,j<S.length->ii D (S.take j) (X.length:Int)=([],3)
 more:∀x,ii D (S++[x]) (X.length:Int)=([],3)
 other:∀(fN:ae) (lim:Int) (Y:ae),ii fN S lim=(Y,0)->sumOf Y=sumOf X
theorem aiZ(k a6:Nat)(X:ae)(hk:k<256)(eE:a6<=1073741824)(cK:X.length<=512):∀x∈hB k a6 X,x<256:=λx ah=>by
 unfold hB at ah;rcases List.mem_cons.1 ah with rfl | ah
 .exact hk
 .rcases List.mem_append.1 ah with ah | ah
  .exact qr a6 (by omega) x ah
  .rcases List.mem_append.1 ah with ah | ah
   .exact qr X.length (by omega) x ah
   .exact u9 _ _ x ah
theorem afn{D X T:ae}{k a6:Nat}(h:rO D X k T)(eE:a6<=1073741824)(cK:X.length<=512):x7 D X a6 (hB k a6 X++T):=by
 have h1:=aiY k a6 X eE cK;have af:=y3 k a6 X;have aq:=y3 0 a6 X;have aJ:=h.len;have aR:=h.kind;refine⟨λx ah=>(List.mem_append.1 ah).elim (aiZ k a6 X (by omega) eE cK x) (h.lt x),?_,?_,?_,⟨k,_,?_,y4 k a6 X T h.kind eE cK⟩,aft h eE cK,afo h.kind eE cK,afm h eE cK,afq h eE cK,λfN lim Y=>afs h.kind eE cK lim⟩
 .rw[aY];omega
 .rw[aY];omega
 .rw[aY,aY];omega
 .omega
end ao
theorem S4(D X:ae)(a6:Nat)(v:Int)(w:ai)(cR:D.length<=256)(cK:X.length<=512)(hDlt:∀x∈D,x<256)(hXlt:∀x∈X,x<256)(eE:a6<=1073741824)(aE:en v) :
  Calls prog 8 #[.string (strOf X),.string (strOf D),.int .i64 a6,.int .i64 v] w λe w'=>(∃S,x7 D X a6 S/\e=.returned (.tuple #[.string (strOf S),.int .i64 0]))/\Below w.heap.size w w':=by
 refine(ae8 D X a6 v w cR cK hDlt hXlt eE aE).mono ?_;rintro e w' ⟨⟨k,T,hq,he⟩,ak⟩;exact⟨⟨_,afn hq eE cK,he⟩,ak⟩
theorem ae3{D X S:ae}{a6:Nat}(aL:x7 D X a6 S)(fN:ae)(lim:Int)(w:ai)(cK:X.length<=512)(yU:fN.length<=1000)(hDlt:∀x∈fN,x<256) :
  Calls prog 9 #[.string (strOf S),.string (strOf fN),.int .i64 lim] w λe w'=>e=.returned (.tuple #[.string (strOf (ii fN S lim).1),.int .i64 ((ii fN S lim).2:Int)])/\Below w.heap.size w w':=
 S3 fN S lim w (by have:=aL.len;omega) aL.lt yU hDlt
theorem arr:strOf []=⟨#[]⟩:=rfl
theorem arp:strOf [104,101,108,108,111,32,104,101,108,108,111,32,104,101,108,108,111]=⟨#[104,101,108,108,111,32,104,101,108,108,111,32,104,101,108,108,111]⟩:=by decide
theorem aro:strOf [104,101,108,108,111,32]=⟨#[104,101,108,108,111,32]⟩:=by decide
theorem afr{D:ae}{S:ae}(h:x7 D [] 0 S):S.length=11:=by
 have h1:=h.plain;obtain⟨k,a,_,hk⟩:=h.head;have af:(hB 0 0 []++[]).length=11:=by decide
 have aq:11<=S.length:=by
  have hy:=h.yes 0 (by simp);rcases eP 10 S.length with am | am
  .exact am
  .exfalso
   have hh:im S=none\/∃z,im S=some z/\11<=S.length:=by
    unfold im;cases S with
    | nil=>exact .inl rfl
    | cons x r=>
     dsimp only;split
     .exact .inl rfl
     .cases aC:qK r with
      | none=>exact .inl rfl
      | some t=>
       refine .inr ⟨_,rfl,?_⟩;unfold qK at aC;split at aC
       .split at aC
        .rw[b1];omega
        .cases aC
       .cases aC
   rcases hh with hh | ⟨_,_,hh⟩
   .rw[hh]at hk;cases hk
   .omega
 omega
theorem S1(w:ai):Calls prog 7 #[] w λe w'=>e=.returned (.bool true)/\Below w.heap.size w w':=by
 have H1:=I (S4 [104,101,108,108,111,32] [104,101,108,108,111,32,104,101,108,108,111,32,104,101,108,108,111] 3 2 w (by decide) (by decide) (by decide) (by decide) (by decide) ⟨by omega,by omega⟩);have dk:=I (λW S (aL:x7 [104,101,108,108,111,32] [104,101,108,108,111,32,104,101,108,108,111,32,104,101,108,108,111] 3 S)=>ae3 aL [104,101,108,108,111,32] 17 W (by decide) (by decide) (by decide));have p6:=I (λW=>S4 [] [] 0 1 W (by decide) (by decide) (by decide) (by decide) (by decide) ⟨by omega,by omega⟩);obtain⟨X,cK⟩:∃X,X=[104,101,108,108,111,32,104,101,108,108,111,32,104,101,108,108,111]:=⟨_,rfl⟩;obtain⟨D,cR⟩:∃D,D=[104,101,108,108,111,32]:=⟨_,rfl⟩;have DN:X.length=17:=by rw[cK];rfl
 have BD:=arp;have vQ:=aro;rw[<-cK]at H1 dk BD;rw[<-cR]at H1 dk vQ;rw[BD,vQ]at H1;rw[vQ]at dk;rw[arr]at p6;have H1:Hid (Calls prog 8 #[.string ⟨#[104,101,108,108,111,32,104,101,108,108,111,32,104,101,108,108,111]⟩,.string ⟨#[104,101,108,108,111,32]⟩,.int .i64 3,.int .i64 2] w λe w'=>(∃S,x7 D X 3 S/\e=.returned (.tuple #[.string (strOf S),.int .i64 0]))/\Below w.heap.size w w'):=I H1.out;have p6:Hid (∀W,Calls prog 8 #[.string ⟨#[]⟩,.string ⟨#[]⟩,.int .i64 0,.int .i64 1] W λe w'=>(∃S,x7 [] [] 0 S/\e=.returned (.tuple #[.string (strOf S),.int .i64 0]))/\Below W.heap.size W w'):=I p6.out;have au8:((ByteArray.mk #[104,101,108,108,111,32,104,101,108,108,111,32,104,101,108,108,111]).toList == (ByteArray.mk #[104,101,108,108,111,32,104,101,108,108,111,32,104,101,108,108,111]).toList)=true:=by simp
 clear cK cR vQ;go_enter func7,ntmps7
 go_wp2_with fail
 refine H1.out.mono ?_;rintro e au ⟨⟨S,aL,rfl⟩,aH⟩;have aK:=I aH;have aG:=λW=>dk.out W S aL
 rw[aL.yes 17 (by omega)]at aG;dsimp only at aG;rw[BD]at aG;obtain⟨k,a,_,hh⟩:=aL.head;have kR:=aL.len;have eE:=λW=>S5 S W (by omega) aL.lt
 have me:=λW=>Tl S W (by omega) aL.lt
 rw[hh]at eE me;dsimp only at eE me;rw[DN]at me;have dS:=I aG;have wH:=I eE;have r5:=I me;clear aH aG eE me aL hh kR H1 dk BD;generalize strOf S=Px at *;go_wp2_with fail
 refine(dS.out _).mono ?_;rintro e aB ⟨rfl,aI⟩;have aV:=b9 aK aI;clear aI aK dS;go_wp2_with fail
 refine(wH.out _).mono ?_;rintro e a1 ⟨rfl,bz⟩;have bE:=b9 aV bz;clear bz aV wH;go_wp2_with fail
 refine(r5.out _).mono ?_;rintro e bA ⟨rfl,a8⟩;have cx:=b9 bE a8;clear a8 bE r5;go_wp2_with fail
 refine(p6.out _).mono ?_;rintro e dG ⟨⟨eg,rk,rfl⟩,cL⟩;have dh:=b9 cx cL;have dV:(strOf eg).size=11:=by rw[cZ];exact afr rk
 clear cL cx p6 rk;generalize strOf eg=s0 at *;go_wp2;go_ret;exact⟨rfl,dh⟩
def x8(e:Ending)(o:Option (ae)):Prop:=∃X ok,e=.returned (.tuple #[.string (strOf X),.bool ok])/\o=if ok=true then some X else none
theorem afE(n:Nat)(D bs:ae)(w:ai) :
  Calls prog 23 #[.string (strOf bs),.string (strOf D),.int .i64 0,.int .i64 n] w λe w'=>x8 e (gJ D 0 n bs)/\Below w.heap.size w w':=by
 have bI:=cZ bs;have he:gJ D 0 n bs=if decide (bs.length=n)=true then some bs else none:=by
  unfold gJ;rw[aA rfl];simp only[decide_eq_true_eq]
 have eS:=I he;have xg:((bs.length:Int) == (n:Int))=decide (bs.length=n):=by
  by_cases h:bs.length=n
  .rw[h,bG rfl];simp
  .rw[bF h,beq_eq_false_iff_ne];omega
 have Lt:decide ((bs.length:Int)=n)=decide (bs.length=n):=decide_eq_decide.2 (by omega);clear he;generalize strOf D=nB at *;generalize Xw:strOf bs=wj at *;have adW:=I Xw;clear Xw;go_enter func23,ntmps23
 go_wp2;go_ret2;exact⟨⟨bs,decide (bs.length=n),by rw[adW.out];rfl,eS⟩,Below.refl _ _⟩
theorem afF(n:Nat)(D bs:ae)(w:ai)(az:n<=512) :
  Calls prog 23 #[.string (strOf bs),.string (strOf D),.int .i64 1,.int .i64 n] w λe w'=>x8 e (gJ D 1 n bs)/\Below w.heap.size w w':=by
 have bI:=cZ bs;by_cases h1:bs.length=1
 .obtain⟨x,rfl⟩:∃x,bs=[x]:=by
   cases bs with
   | nil=>cases h1
   | cons x u=>cases u with
    | nil=>exact⟨x,rfl⟩
    | cons y u=>simp at h1
  have qP:=I (λj (ar:j<=512) W=>B8 (List.replicate j x) [x] (by rw[jl];simp;omega) W);have dw:Hid (x8 (.returned (.tuple #[.string (strOf (List.replicate n x)),.bool true])) (gJ D 1 n [x])):=I ⟨_,true,rfl,rfl⟩;have hsz1:(strOf [x]).size=1:=bI;clear bI h1;generalize jB:strOf [x]=s1 at *;clear jB;generalize strOf D=nB at *;go_enter func23,ntmps23
  go_wp2;go_loopw [10,11] (λv7 bV wr=>∃j:Nat,j<=n/\v7=.string (strOf (List.replicate j x))/\bV=.int .i64 j/\wr=w) (λ_ bV _=>n-(intOf bV).toNat)
  case atStart=>exact⟨0,by omega,rfl,rfl,by first | rfl | trivial⟩
  case round=>
   obtain⟨j,ar,rfl,rfl,rfl⟩:=hrel;by_cases Bn:j<n
   .have hadd:=λW=>qP.out j (by omega) W
    rw[show List.replicate j x++[x]=List.replicate (j+1) x from(replicate_succ' (n:=j) (a:=x)).symm]at hadd;clear qP;generalize akd:strOf (List.replicate j x)=axa at *;clear akd;go_wp2;go_roundw
    case rel=>exact⟨j+1,by omega,rfl,by go_num,by first | rfl | trivial⟩
    case measure=>simp[intOf];omega
   .obtain rfl:j=n:=by omega
    go_wp2;go_ret2;exact⟨dw,Below.refl _ _⟩
 .have dw:Hid (x8 (.returned (.tuple #[.string (strOf []),.bool false])) (gJ D 1 n bs)):=I ⟨_,false,rfl,by
   unfold gJ;rw[ay (by decide),aA rfl,ay h1];rfl⟩
  have d1:((bs.length:Int) == 1)=false:=cz
  clear h1;generalize strOf D=nB at *;generalize strOf bs=wj at *;go_enter func23,ntmps23
  go_wp2;refine wp_loop_rounds 2 ?_;rw[rounds_succ];by_cases hp:0<n
  .have d0:decide ((0:Int)<n)=true:=cl;go_wp2;go_ret2;exact⟨dw,Below.refl _ _⟩
  .have d0:decide ((0:Int)<n)=false:=aT;go_wp2;go_ret2;exact⟨dw,Below.refl _ _⟩
theorem afG(n:Nat)(D bs:ae)(w:ai)(hl:bs.length<=1000)(av:∀x∈bs,x<256)(cR:D.length<=1000)(az:n<=512) :
  Calls prog 23 #[.string (strOf bs),.string (strOf D),.int .i64 2,.int .i64 n] w λe w'=>x8 e (gJ D 2 n bs)/\Below w.heap.size w w':=by
 have bI:=cZ bs;have H1:=I (ams bs (n:Int) w hl av (by omega));have aI:=Ti D n bs;cases aG:jv bs (n:Int)with
 | none=>
  rw[aG]at H1 aI;dsimp only at aI;rw[aI];clear aI aG hl av cR az;generalize strOf D=nB at *;generalize strOf bs=wj at *;go_enter func23,ntmps23
  go_wp2_with fail
  refine H1.out.mono ?_;rintro e au ⟨rfl,aH⟩;unfold nc;go_wp2;go_ret2;exact⟨⟨[],false,rfl,rfl⟩,aH⟩
 | some t=>
  obtain⟨L,j⟩:=t;have ar:=T5 bs n (L,j) av aG;dsimp only at ar;rw[aG]at H1 aI;unfold nc at H1;dsimp only at aI H1;have o4:((j:Int) == 0)=false:=cz
  have dk:=I (λW=>aor (bs.drop j) (n:Int) W (by rw[cC];omega) (jw av j) ⟨by omega,by omega⟩);have fL:=λW=>pm bs j ar.2.2 W
  cases ap:iM (bs.drop j) (n:Int)with
  | none=>
   rw[ap]at dk aI;dsimp only at aI;rw[aI];clear aI ap aG hl av cR az ar;generalize strOf L=aaA at *;generalize strOf (bs.drop j)=Pw at *;generalize strOf D=nB at *;generalize strOf bs=wj at *;generalize bs.length=YO at *;go_enter func23,ntmps23
   go_wp2_with fail
   refine H1.out.mono ?_;rintro e au ⟨rfl,aH⟩;have aK:=I aH;clear aH H1;go_wp2_with fail
   refine(dk.out _).mono ?_;rintro e aB ⟨aw,aI⟩;obtain rfl:e=.returned (.tuple #[.slice none 0 0,.int .i64 0]):=aw;have aV:=b9 aK aI;clear aI aK dk;go_wp2;go_ret2;exact⟨⟨[],false,rfl,rfl⟩,aV⟩
  | some q=>
   obtain⟨l,i⟩:=q;have ax:=PA (bs.drop j) n (l,i) ap;have jj:=acd l (aaL (bs.drop j) n (l,i) ap);rw[ap]at dk aI;rw[cC]at ax;dsimp only at ax aI;have aud:((i:Int) == 0)=false:=cz
   have hw:IntKind.i64.wrap ((j:Int)+i)=((j+i:Nat):Int):=by rw[IntWalk.i64_in _ (by omega)];omega
   by_cases pI:j+i=bs.length
   .have nv:IntKind.i64.wrap ((j:Int)+i)=(bs.length:Int):=by rw[hw,pI]
    have uV:=I (λW A c aj=>ak6 D L A c (l.map iu) (n:Int) n W (by omega) (by omega) (by rw[cQ];omega) ⟨by omega,by omega⟩ (.inr rfl) (by omega) jj (PT aj));have NW:=SW D L (l.map iu) n;have NZ:=SV D L (l.map iu) n;rw[cQ]at uV;generalize iV D L (l.map iu) n=Z at *;obtain⟨X,z⟩:=Z;dsimp only at aI uV NW NZ;have awp:=cZ X;have dw:Hid (x8 (.returned (.tuple #[.string (strOf X),.bool (decide (z=0) && decide (X.length=n))])) (gJ D 2 n bs)):=I ⟨X,_,rfl,by
     rw[aI];by_cases aO:z=0/\X.length=n
     .rw[aA ⟨pI,aO.1,aO.2⟩,aA (by simp[aO.1,aO.2])]
     .rw[ay (λc=>aO c.2),ay (λc=>aO (by simpa using c))]⟩
    clear aI ap aG hl av cR ar ax jj hw pI;generalize strOf L=aaA at *;generalize strOf (bs.drop j)=Pw at *;generalize strOf D=nB at *;generalize strOf bs=wj at *;generalize strOf X=rF at *;generalize gJ D 2 n bs=atK at *;generalize bs.length=YO at *;go_enter func23,ntmps23
    go_wp2_with fail
    refine H1.out.mono ?_;rintro e au ⟨rfl,aH⟩;have aK:=I aH;clear aH H1;go_wp2_with fail
    refine(dk.out _).mono ?_;rintro e aB ⟨⟨A,c,rfl,aj⟩,aI⟩;have aV:=b9 aK aI;have eA:=I (uV.out aB A c aj);clear aI aK dk aj uV;dsimp only;go_wp2_with fail
    refine eA.out.mono ?_;rintro e a1 ⟨rfl,bz⟩;have bE:=b9 aV bz;clear eA bz aV;by_cases aO:z=0
    .subst aO;have xg:((X.length:Int) == (n:Int))=decide (X.length=n):=by
      by_cases h:X.length=n
      .rw[h,bG rfl];simp
      .rw[bF h,beq_eq_false_iff_ne];omega
     have Lt:decide ((X.length:Int)=n)=decide (X.length=n):=decide_eq_decide.2 (by omega);have hend:=dw.out;rw[bG rfl,Bool.true_and]at hend;go_wp2;go_ret2;exact⟨hend,bE⟩
    .have tO:((z:Int) == 0)=false:=cz
     have ag5:decide ((z:Int)=0)=false:=aT;have hend:=dw.out;rw[bF aO,Bool.false_and]at hend;go_wp2;go_ret2;exact⟨hend,bE⟩
   .rw[ay (λc=>pI c.1)]at aI;rw[aI];have aue:(((j+i:Nat):Int) == (bs.length:Int))=false:=cz
    clear aI ap aG hl av cR az ar ax jj pI;generalize strOf L=aaA at *;generalize strOf (bs.drop j)=Pw at *;generalize strOf D=nB at *;generalize strOf bs=wj at *;generalize bs.length=YO at *;generalize ((j+i:Nat):Int)=awN at *;go_enter func23,ntmps23
    go_wp2_with fail
    refine H1.out.mono ?_;rintro e au ⟨rfl,aH⟩;have aK:=I aH;clear aH H1;go_wp2_with fail
    refine(dk.out _).mono ?_;rintro e aB ⟨⟨A,c,rfl,aj⟩,aI⟩;have aV:=b9 aK aI;clear aI aK dk aj;dsimp only;go_wp2;go_ret2;exact⟨⟨[],false,rfl,rfl⟩,aV⟩
theorem VZ(bs:ae)(h:ao.dN)(he:im bs=some h):h.1<3/\0<h.2.2.2.2/\h.2.2.2.2<=bs.length:=by
 unfold im at he;split at he
 .cases he
 .next k r=>
  split at he
  .cases he
  .next hk=>
   cases aC:qK r with
   | none=>rw[aC]at he;cases he
   | some t=>
    rw[aC]at he;injection he with he
    have h1:=(abG r [] t aC).2;rw[<-he,b1];dsimp only;omega
theorem afH(k n:Nat)(D bs:ae)(w:ai)(hk:k<3)(hl:bs.length<=1000)(av:∀x∈bs,x<256)(cR:D.length<=1000)(az:n<=512) :
  Calls prog 23 #[.string (strOf bs),.string (strOf D),.int .i64 k,.int .i64 n] w λe w'=>x8 e (gJ D k n bs)/\Below w.heap.size w w':=by
 rcases(by omega:k=0\/k=1\/k=2)with rfl | rfl | rfl
 .exact afE n D bs w
 .exact afF n D bs w az
 .exact afG n D bs w hl av cR az
theorem afI(D bs:ae)(lim:Int)(w:ai)(hl:bs.length<=1000)(av:∀x∈bs,x<256)(cR:D.length<=1000)(hDlt:∀x∈D,x<256) :
  Calls prog 10 #[.string (strOf bs),.string (strOf D),.int .i64 lim] w λe w'=>e=.returned (.tuple #[.string (strOf (ii D bs lim).1),.int .i64 ((ii D bs lim).2:Int)])/\Below w.heap.size w w':=by
 have fB:=I (Tk bs w (by omega) av);have FK:=I (λW k n at_ (hk:k<3) (az:n<=512)=>afH k n D (bs.drop at_) W hk (by rw[cC];omega) (jw av at_) cR az);have p9:=I (λk n at_ X (h:gJ D k n (bs.drop at_)=some X)=>Tj hDlt (jw av at_) h);obtain⟨V,bY⟩:∃V,V=ii D bs lim:=⟨_,rfl⟩;rw[<-bY];have pd:=VZ bs;have fL:=λi (ax:i<=bs.length) W=>pm bs i ax W
 unfold ii at bY;clear av cR hDlt;generalize strOf D=nB at *;cases aG:im bs with
 | none=>
  rw[aG]at fB bY;subst bY;have uO:Hid (Calls prog 11 #[.string (strOf bs)] w λe w'=>e=.returned (.tuple #[.agg #[.int .i64 0,.int .i64 0,.int .i64 0],.int .u64 0,.int .i64 0])/\Below w.heap.size w w'):=I fB.out;clear aG pd FK p9 fL fB hl;generalize strOf bs=wj at *;go_enter func10,ntmps10
  go_wp2_with fail
  refine uO.out.mono ?_;rintro e au ⟨rfl,aH⟩;have Ah:=I (λu=>aH.alloc aH.size u);clear aH uO;go_wp2;go_ret2;exact⟨rfl,Ah.out _⟩
 | some h=>
  obtain⟨k,a6,n,s,at_⟩:=h;obtain⟨hk,Mq,aS⟩:=pd _ aG;dsimp only at hk Mq aS;rw[aG]at fB bY;have uO:Hid (Calls prog 11 #[.string (strOf bs)] w λe w'=>e=.returned (.tuple #[.agg #[.int .i64 k,.int .i64 a6,.int .i64 n],.int .u64 s,.int .i64 at_])/\Below w.heap.size w w'):=I fB.out;dsimp only at bY;have AY:((at_:Int) == 0)=false:=cz
  have hcut:=λW=>fL at_ aS W
  clear aG pd fL fB hl Mq aS;by_cases hbig:lim<(n:Int)\/512<n
  .rw[aA hbig]at bY;subst bY;have d1:decide (lim<(n:Int))=true\/(decide (lim<(n:Int))=false/\decide ((512:Int)<n)=true):=by
    by_cases h:lim<(n:Int)
    .exact .inl (bG h)
    .exact .inr ⟨bF h,bG (by omega)⟩
   clear FK p9 hcut hbig;generalize strOf bs=wj at *;go_enter func10,ntmps10
   go_wp2_with fail
   refine uO.out.mono ?_;rintro e au ⟨rfl,aH⟩;have Ah:=I (λu=>aH.alloc aH.size u);clear aH uO;rcases d1 with d1 | ⟨d1,d2⟩
   .go_wp2;go_ret2;exact⟨rfl,Ah.out _⟩
   .go_wp2;go_ret2;exact⟨rfl,Ah.out _⟩
  .rw[ay hbig]at bY;have d1:decide (lim<(n:Int))=false:=aT;have d2:decide ((512:Int)<n)=false:=aT;have aU:=I (λW=>FK.out W k n at_ hk (by omega));have b2:=I (λX h=>p9.out k n at_ X h);have og:=I (λX (h:gJ D k n (bs.drop at_)=some X)=>du (Nat.le_of_eq (KW h)) (by omega:n<=512));clear FK p9 hbig hk;generalize strOf (bs.drop at_)=Pw at *;generalize strOf bs=wj at *;generalize gJ D k n (bs.drop at_)=O at *;go_enter func10,ntmps10
   go_wp2_with fail
   refine uO.out.mono ?_;rintro e au ⟨rfl,aH⟩;have hrow:Row (au.alloc (.cells #[.int .i64 k,.int .i64 a6,.int .i64 n] 30)) au.heap.size 30 [.int .i64 k,.int .i64 a6,.int .i64 n]:=Row.new au 30 [.int .i64 k,.int .i64 a6,.int .i64 n];have da:=I hrow;have eZ:=I (aH.alloc aH.size (.cells #[.int .i64 k,.int .i64 a6,.int .i64 n] 30));clear aH uO hrow;go_upto_region 6 with fail
   generalize au.alloc (.cells #[.int .i64 k,.int .i64 a6,.int .i64 n] 30)=dv at *;have py:=I (show dv.cell? ⟨au.heap.size,0,none⟩=some (.int .i64 k)from da.out.cell 0);have gp:=I (show dv.cell? ⟨au.heap.size,2,none⟩=some (.int .i64 n)from da.out.cell 2);clear da;refine wp_region_held_drew (S:=(λW:ai=>W.cell? ⟨au.heap.size,0,none⟩=some (.int .i64 k)/\W.cell? ⟨au.heap.size,2,none⟩=some (.int .i64 n))) (by kernel_rfl) (by exact⟨py,gp⟩) (λhHeld=>?_);refine ch 0 {dst:=some 31,op:=.move (.tmp 0),type:=9,pos:= "ref.go:69",after:=#[],guard:=none} ?_ rfl (Or.inl ⟨by rfl,?_⟩) ?_;rotate_left
   ·(intro w hSw;(try dsimp only at hSw);go_simp;(try with_reducible rfl))
   try simp only[bx]
   refine ch 1 {dst:=some 32,op:=.move (.tmp 10),type:=3,pos:= "ref.go:69",after:=#[],guard:=none} ?_ rfl (Or.inl ⟨by rfl,?_⟩) ?_;rotate_left
   ·(intro w hSw;(try dsimp only at hSw);go_simp;(try with_reducible rfl))
   try simp only[bx]
   refine ch 2 {dst:=some 33,op:=.slice 9 (.tmp 31) (some (.tmp 32)) none none,type:=9,pos:= "ref.go:69",after:=#[{on:=0,ground:=.data},{on:=1,ground:=.data}],guard:=none} ?_ rfl (Or.inl ⟨by rfl,?_⟩) ?_;rotate_left
   ·(intro w hSw;(try dsimp only at hSw);go_simp;(try with_reducible rfl))
   try simp only[bx]
   refine ch 3 {dst:=some 34,op:=.move (.tmp 1),type:=9,pos:= "ref.go:69",after:=#[],guard:=none} ?_ rfl (Or.inl ⟨by rfl,?_⟩) ?_;rotate_left
   ·(intro w hSw;(try dsimp only at hSw);go_simp;(try with_reducible rfl))
   try simp only[bx]
   refine ch 4 {dst:=some 35,op:=.indexAddr 30 (.tmp 8) (.const (.int .i64 0)),type:=0,pos:= "ref.go:69",after:=#[],guard:=none} ?_ rfl (Or.inl ⟨by rfl,?_⟩) ?_;rotate_left
   ·(intro w hSw;(try dsimp only at hSw);go_simp;(try with_reducible rfl))
   try simp only[bx]
   refine ch 5 {dst:=some 36,op:=.load 3 (.tmp 35),type:=3,pos:= "ref.go:69",after:=#[{on:=4,ground:=.data}],guard:=none} ?_ rfl (Or.inl ⟨by rfl,?_⟩) ?_;rotate_left
   ·(intro w hSw;(try dsimp only at hSw);go_simp;(try with_reducible rfl))
   try simp only[bx]
   refine ch 6 {dst:=some 37,op:=.indexAddr 30 (.tmp 8) (.const (.int .i64 2)),type:=0,pos:= "ref.go:69",after:=#[],guard:=none} ?_ rfl (Or.inl ⟨by rfl,?_⟩) ?_;rotate_left
   ·(intro w hSw;(try dsimp only at hSw);go_simp;(try with_reducible rfl))
   try simp only[bx]
   refine ch 7 {dst:=some 38,op:=.load 3 (.tmp 37),type:=3,pos:= "ref.go:69",after:=#[{on:=6,ground:=.data}],guard:=none} ?_ rfl (Or.inl ⟨by rfl,?_⟩) ?_;rotate_left
   ·(intro w hSw;(try dsimp only at hSw);go_simp;(try with_reducible rfl))
   try simp only[bx]
   refine iq 8 {dst:=some 39,op:=.call {callee:=.value (.func 23),args:=#[.tmp 33,.tmp 34,.tmp 36,.tmp 38],argTypes:=#[9,9,3,3]},type:=44,pos:= "ref.go:69",after:=#[{on:=2,ground:=.data},{on:=3,ground:=.data},{on:=5,ground:=.data},{on:=7,ground:=.data}],guard:=none} rfl (λK hK=>?_);go_simp
   (go_at_call 23;refine(aU.out _).mono ?_;rintro e a1 ⟨⟨x,ok,rfl,he⟩,bz⟩;have dN:=I (eZ.out.drew.trans (bz.mono eZ.out.drew.size));have oc:=I (And.intro ((bz.cell (p:=⟨au.heap.size,0,none⟩) (World.block_lt_of_cell? _ _ py)).trans py) ((bz.cell (p:=⟨au.heap.size,2,none⟩) (World.block_lt_of_cell? _ _ gp)).trans gp));clear bz)
   go_simp;refine hK.out _ _ (by exact oc) (λhHeld=>?_);clear hK K
   try simp only[bx]
   refine ch 9 {dst:=some 30,op:=.move (.tmp 39),type:=44,pos:= "ref.go:69",after:=#[{on:=8,ground:=.data}],guard:=none} ?_ rfl (Or.inl ⟨by rfl,?_⟩) ?_;rotate_left
   ·(intro w hSw;(try dsimp only at hSw);go_simp;(try with_reducible rfl))
   try simp only[bx]
   refine ch 10 {dst:=some 40,op:=.extract (.tmp 30) 0,type:=9,pos:= "ref.go:69",after:=#[{on:=9,ground:=.data}],guard:=none} ?_ rfl (Or.inl ⟨by rfl,?_⟩) ?_;rotate_left
   ·(intro w hSw;(try dsimp only at hSw);go_simp;(try with_reducible rfl))
   try simp only[bx]
   refine ch 11 {dst:=some 41,op:=.extract (.tmp 30) 1,type:=4,pos:= "ref.go:69",after:=#[{on:=9,ground:=.data},{on:=12,ground:=.gcOnly Go.Departure.lateStores}],guard:=none} ?_ rfl (Or.inl ⟨by rfl,?_⟩) ?_;rotate_left
   ·(intro w hSw;(try dsimp only at hSw);go_simp;(try with_reducible rfl))
   try simp only[bx]
   refine ch 12 {dst:=some 11,op:=.assign (.tmp 40),type:=9,pos:= "ref.go:69",after:=#[{on:=10,ground:=.data},{on:=8,ground:=.chain},{on:=0,ground:=.phase},{on:=1,ground:=.phase},{on:=2,ground:=.phase},{on:=3,ground:=.phase},{on:=4,ground:=.phase},{on:=5,ground:=.phase},{on:=6,ground:=.phase},{on:=7,ground:=.phase},{on:=8,ground:=.phase},{on:=9,ground:=.phase},{on:=10,ground:=.phase},{on:=11,ground:=.textOnly Go.Departure.lateStores}],guard:=none} ?_ rfl (Or.inl ⟨by rfl,?_⟩) ?_;rotate_left
   ·(intro w hSw;(try dsimp only at hSw);go_simp;(try with_reducible rfl))
   try simp only[bx]
   refine ch 13 {dst:=some 12,op:=.assign (.tmp 41),type:=4,pos:= "ref.go:69",after:=#[{on:=11,ground:=.data},{on:=12,ground:=.chain},{on:=0,ground:=.phase},{on:=1,ground:=.phase},{on:=2,ground:=.phase},{on:=3,ground:=.phase},{on:=4,ground:=.phase},{on:=5,ground:=.phase},{on:=6,ground:=.phase},{on:=7,ground:=.phase},{on:=8,ground:=.phase},{on:=9,ground:=.phase},{on:=10,ground:=.phase},{on:=11,ground:=.phase},{on:=12,ground:=.phase}],guard:=none} ?_ rfl (Or.inl ⟨by rfl,?_⟩) ?_;rotate_left
   ·(intro w hSw;(try dsimp only at hSw);go_simp;(try with_reducible rfl))
   try simp only[bx]
   refine wpAnyH_done (by kernel_rfl) ?_ _;cases ok with
   | false=>
    simp only[Bool.false_eq_true,if_false]at he;subst he;subst bY;clear aU b2 og hcut oc py gp eZ;go_wp2;go_ret2;exact⟨rfl,dN⟩
   | true=>
    simp only[if_true]at he;subst he;dsimp only at bY;have r0:=I (λW=>ahU x W (by have:=og.out x rfl;omega) (b2.out x rfl));clear aU b2 og hcut oc py gp eZ;go_wp2_with fail
    refine(r0.out _).mono ?_;rintro e bA ⟨rfl,rfl⟩;clear r0;by_cases hsum:ao.sumOf x=s
    .rw[aA hsum]at bY;subst bY;rw[hsum];clear hsum;go_wp2;go_ret2;exact⟨rfl,dN⟩
    .rw[ay hsum]at bY;subst bY;have tO:((ao.sumOf x:Int) == (s:Int))=false:=cz
     generalize ao.sumOf x=y at *;go_wp2;go_ret2;exact⟨rfl,dN⟩
theorem aeX(S D:ae)(lim:Int)(w:ai)(cu:S.length<=9223372036854775807)(cR:D.length<=9223372036854775807)(h:120<S.length\/100<D.length) :
  Calls prog 4 #[.string (strOf S),.string (strOf D),.int .i64 lim] w λe w'=>e=.returned (.bool true)/\Below w.heap.size w w':=by
 have Ag:=I (S1 w);have jB:=cZ S;have gT:=cZ D;generalize strOf S=rF at *;generalize strOf D=nB at *;generalize S.length=m at *;generalize D.length=n at *;go_enter func4,ntmps4
 go_wp2_with fail
 refine Ag.out.mono ?_;rintro e au ⟨rfl,aH⟩;by_cases h1:120<m
 .have d1:decide ((120:Int)<m)=true:=cl;clear h;go_wp2;go_ret;exact⟨rfl,aH⟩
 .have d1:decide ((120:Int)<m)=false:=aT;have d3:decide ((100:Int)<n)=true:=cl;clear h;go_wp2;go_ret;exact⟨rfl,aH⟩
theorem aeW(S D:ae)(lim:Int)(w:ai)(cu:S.length<=120)(cR:D.length<=100)(tV:∀x∈S,x<256)(hDlt:∀x∈D,x<256) :
  Calls prog 4 #[.string (strOf S),.string (strOf D),.int .i64 lim] w λe w'=>e=.returned (.bool true)/\Below w.heap.size w w':=by
 have Ag:=I (S1 w);have jB:=cZ S;have gT:=cZ D;have d1:decide ((120:Int)<(S.length:Int))=false:=aT;have d2:decide ((100:Int)<(D.length:Int))=false:=aT;have dS:=I (λW=>S3 D S lim W (by omega) tV (by omega) hDlt);have aU:=I (λW=>afI D S lim W (by omega) tV (by omega) hDlt);have hh:=λW=>Tk S W (by omega) tV
 have eE:=λW=>S5 S W (by omega) tV
 have me:=λW=>Tl S W (by omega) tV
 have eO:=VZ S;obtain⟨_,dY,_,_⟩:=afp D S lim;generalize ii D S lim=Z at *;obtain⟨Y,z⟩:=Z;dsimp only at dS aU dY;have awl:=cZ Y;have DP:((strOf Y).toList == (strOf Y).toList)=true:=by simp
 have d3:decide (max lim 0<(Y.length:Int))=false:=aT;have at9:decide (max 0 lim<(Y.length:Int))=false:=aT;cases aG:im S with
 | none=>
  rw[aG]at hh eE me;dsimp only at eE me;have fB:Hid (∀W,Calls prog 11 #[.string (strOf S)] W λe w'=>e=.returned (.tuple #[.agg #[.int .i64 0,.int .i64 0,.int .i64 0],.int .u64 0,.int .i64 0])/\Below W.heap.size W w'):=I hh;have wH:=I eE;have r5:=I me;clear hh eE me aG eO dY tV hDlt cu cR;generalize strOf Y=aqb at *;generalize strOf S=Px at *;generalize strOf D=nB at *;go_enter func4,ntmps4
  go_wp2_with fail
  refine Ag.out.mono ?_;rintro e au ⟨rfl,aH⟩;have aK:=I aH;clear aH Ag;go_wp2_with fail
  refine(dS.out _).mono ?_;rintro e aB ⟨rfl,aI⟩;have aV:=b9 aK aI;clear aI aK dS;go_wp2_with fail
  refine(aU.out _).mono ?_;rintro e a1 ⟨rfl,bz⟩;have bE:=b9 aV bz;clear bz aV aU;go_wp2_with fail
  refine(fB.out _).mono ?_;rintro e bA ⟨rfl,a8⟩;have cx:=I (λu=>(bE.out.trans (a8.mono bE.out.size)).alloc (bE.out.trans (a8.mono bE.out.size)).size u);clear a8 bE fB;go_wp2_with fail
  refine(wH.out _).mono ?_;rintro e dG ⟨rfl,cL⟩;have dh:=I ((cx.out _).trans (cL.mono (cx.out _).size));clear cL cx wH;go_wp2_with fail
  refine(r5.out _).mono ?_;rintro e dp ⟨rfl,fS⟩;have iP:=b9 dh fS;clear fS dh r5;go_wp2;go_ret;exact⟨rfl,iP⟩
 | some h=>
  obtain⟨k,a6,n,s,a⟩:=h;obtain⟨_,aS,_⟩:=eO _ aG;dsimp only at aS;rw[aG]at hh eE me;dsimp only at eE me;have fB:Hid (∀W,Calls prog 11 #[.string (strOf S)] W λe w'=>e=.returned (.tuple #[.agg #[.int .i64 k,.int .i64 a6,.int .i64 n],.int .u64 s,.int .i64 a])/\Below W.heap.size W w'):=I hh;have wH:=I eE;have r5:=I me;have AY:((a:Int) == 0)=false:=cz
  have auc:((a6:Int) == (a6:Int))=true:=by simp
  have xg:((n:Int) == (n:Int))=true:=by simp
  clear hh eE me aG eO dY tV hDlt cu cR aS;generalize strOf Y=aqb at *;generalize strOf S=Px at *;generalize strOf D=nB at *;go_enter func4,ntmps4
  go_wp2_with fail
  refine Ag.out.mono ?_;rintro e au ⟨rfl,aH⟩;have aK:=I aH;clear aH Ag;go_wp2_with fail
  refine(dS.out _).mono ?_;rintro e aB ⟨rfl,aI⟩;have aV:=b9 aK aI;clear aI aK dS;go_wp2_with fail
  refine(aU.out _).mono ?_;rintro e a1 ⟨rfl,bz⟩;have bE:=b9 aV bz;clear bz aV aU;go_wp2_with fail
  refine(fB.out _).mono ?_;rintro e bA ⟨rfl,a8⟩;have hrow:Row (bA.alloc (.cells #[.int .i64 k,.int .i64 a6,.int .i64 n] 30)) bA.heap.size 30 [.int .i64 k,.int .i64 a6,.int .i64 n]:=Row.new bA 30 [.int .i64 k,.int .i64 a6,.int .i64 n];have da:=I hrow;have cx:=I ((bE.out.trans (a8.mono bE.out.size)).alloc (bE.out.trans (a8.mono bE.out.size)).size (.cells #[.int .i64 k,.int .i64 a6,.int .i64 n] 30));clear a8 bE fB hrow;go_wp2_with fail
  refine(wH.out _).mono ?_;rintro e dG ⟨rfl,cL⟩;have dh:=b9 cx cL;have tF:=I (da.out.keep (cL.block _ da.out.lt));clear cL cx wH da;go_wp2_with fail
  refine(r5.out _).mono ?_;rintro e dp ⟨rfl,fS⟩;have iP:=b9 dh fS;have aj:=tF.out.keep (fS.block _ tF.out.lt);have c1:dp.cell? ⟨bA.heap.size,1,none⟩=some (.int .i64 a6):=aj.cell 1;have c2:dp.cell? ⟨bA.heap.size,2,none⟩=some (.int .i64 n):=aj.cell 2;clear fS dh r5 aj tF;go_wp2;go_ret;exact⟨rfl,iP⟩
end Go.Proofs.YtgiicohbigiapaaGreat
