/- Contracts. -/
import Derived.Test.YtgiicohbigiapaaGreatQad
import Derived.Shelf.Bits.Mul64
import Derived.Lib.SlBuf
import Derived.Deep.RegionHeld3
import Derived.Lib.MakeNoZero
import Derived.Test.YtgiicohbigiapaaGreatQz2
import Derived.Test.YtgiicohbigiapaaGreatQz1
import Derived.Test.YtgiicohbigiapaaGreatQz0
set_option maxHeartbeats 4000000
set_option maxRecDepth 100000
open Go.Proofs.Tryz Go.Proofs.YtgiicohbigiapaaGreat.ao List Nat Option
namespace Go.Proofs.YtgiicohbigiapaaGreat
open Go.Shelf Go.RowKit
def afv:Go.Shelf.Ren:=⟨fun | 212=>50 | 263=>87 | 264=>88 | n=>n,fun | 46=>88 | 51=>132 | 53=>31 | 146=>137 | 148=>139 | n=>n,fun | n=>n⟩
theorem afu:Lays.n212 prog afv:={
 mixed:=by kernel_rfl
 f212:=Tryz.func50.trans (congrArg some (by kernel_rfl))
 f263:=Tryz.func87.trans (congrArg some (by kernel_rfl))
 f264:=Tryz.func88.trans (congrArg some (by kernel_rfl))
 t46:=underlying88
 a46:=Tryz.isAgg88
 z46:=Tryz.sizeOf88
 v46:=Tryz.zeroValue88
 t51:=underlying132
 a51:=Tryz.isAgg132
 z51:=Tryz.sizeOf132
 v51:=Tryz.zeroValue132
 t53:=underlying31
 a53:=Tryz.isAgg31
 z53:=Tryz.sizeOf31
 v53:=Tryz.zeroValue31
 t146:=underlying137
 a146:=Tryz.isAgg137
 z146:=Tryz.sizeOf137
 v146:=Tryz.zeroValue137
 t148:=underlying139
 a148:=Tryz.isAgg139
 z148:=Tryz.sizeOf139
 v148:=Tryz.zeroValue139}
theorem Te(x y:Nat)(ah:x<18446744073709551616)(hy:y<18446744073709551616)(w:ai) :
  Calls prog 50 #[.int .u64 x,.int .u64 y] w λe w'=>e=.returned (.tuple #[.int .u64 ((x*y/18446744073709551616:Nat):Int),.int .u64 ((x*y%18446744073709551616:Nat):Int)])/\w'=w:=Any.bits_Mul afu x y ah hy w
theorem aow(A:a7)(c n:Nat)(w:ai)(am:1<=n)(az:n<=4096) :
  Calls prog 181 #[.slice A 0 c,.int .i64 n] w λe w'=>(∃de df,e=.returned (.slice de 0 df))/\Below w.heap.size w w':=by
 have hm:=Te 0 n (by omega) (by omega) w;rw[Nat.zero_mul]at hm;have ci:=I hm;have d0:((n:Int) == 0)=false:=cz
 have d1:decide ((n:Int)<0)=false:=aT;have hw:IntKind.u64.wrap (n:Int)=n:=by rw[IntKind.wrap_u64];omega
 clear hm;go_enter func181,ntmps181
 go_wp2_with fail
 refine ci.out.mono ?_;rintro e w' ⟨rfl,rfl⟩;go_wp2;go_ret;exact⟨⟨_,_,rfl⟩,by first | exact Below.refl _ _ | exact dQ.alloc bh _⟩
theorem afO{w0 wr:ai}{h N:Nat}{acc:List UInt8}(ak:Lib.Buf w0 wr h N acc):Lib.Buf w0 wr.drew h N acc:=⟨ak.below.drew,ak.there,ak.free,ak.holds,ak.fits⟩
theorem agF(w0 wr:ai)(h N m:Nat)(acc:List UInt8)(ty:TypeId)(ak:Lib.Buf w0 wr h N acc)(hm:m<=acc.length)(hfit:acc.length<N) :
  ∃ab4,(Builtin.copy_ #[87,87] ty #[.slice (some ⟨h,acc.length,none⟩) (N-acc.length) (N-acc.length),.slice (some ⟨h,0,none⟩) m N]).run prog wr=.ok (goInt ((min m (N-acc.length):Nat):Int)) ab4/\Lib.Buf w0 ab4 h N (acc++acc.take (min m (N-acc.length))):=by
 obtain⟨k,hk⟩:∃k,k=min m (N-acc.length):=⟨_,rfl⟩;rw[<-hk];have bb:k<=acc.length:=by omega
 have aj:=run_copy_cells (P:=prog) wr 87 87 ty 5 h acc.length (N-acc.length) (N-acc.length) ⟨h,0,none⟩ m N ((acc.take k).map λx=>Value.int .u8 (x.toNat:Int)) underlying87 (by kernel_rfl) (by rw[cQ,cq,Nat.min_eq_left bb,hk])
  (λj u ar=>by
   rw[getElem?_map]at ar;obtain⟨x,ah,rfl⟩:=Option.map_eq_some_iff.1 ar;rw[AN];refine ak.holds j x ?_;have ajC:j<k:=by
    have:=(List.getElem?_eq_some_iff.1 ah).1;rw[cq]at this;omega
   rw[getElem?_take_of_lt ajC]at ah;exact ah)
  (λj ar=>by rw[cQ,cq]at ar;exact ak.there _ (by omega)) (λj ar=>by rw[cQ,cq]at ar;exact ak.free _ (by omega))
  (λu akl=>by obtain⟨x,_,rfl⟩:=List.mem_map.1 akl;rfl)
 rw[cQ,cq,Nat.min_eq_left bb]at aj;refine⟨_,aj,?_⟩;have iE:((acc.take k).map λx=>Value.int .u8 (x.toNat:Int)).length=k:=by rw[cQ,cq,Nat.min_eq_left bb]
 have eO:=World.cell?_setCells_in h ((acc.take k).map λx=>Value.int .u8 (x.toNat:Int)) acc.length wr (λj ar=>by rw[iE]at ar;exact ak.there _ (by omega));have hout:=World.cell?_setCells_out h ((acc.take k).map λx=>Value.int .u8 (x.toNat:Int)) acc.length wr;rw[iE]at hout;refine⟨?_,?_,?_,?_,by rw[aY,cq];omega⟩
 .exact Lib.below_setCells h bh _ _ ak.below
 .intro j ar;by_cases h1:acc.length<=j/\j<acc.length+k
  .obtain⟨d,rfl⟩:∃d,j=acc.length+d:=⟨j-acc.length,by omega⟩;rw[eO d (by rw[iE];omega)];rfl
  .rw[hout ⟨h,j,none⟩ (λ_ _=>by show j<_\/_<=j;omega)];exact ak.there j ar
 .intro j ar;rw[World.frozen?_setCells];exact ak.free j ar
 .intro j x ah;by_cases h1:j<acc.length
  .rw[hZ h1]at ah;rw[hout ⟨h,j,none⟩ (λ_ _=>Or.inl h1)];exact ak.holds j x ah
  .rw[jk (by omega)]at ah;obtain⟨d,rfl⟩:∃d,j=acc.length+d:=⟨j-acc.length,by omega⟩;rw[Nat.add_sub_cancel_left]at ah;have aG:d<(acc.take k).length:=(List.getElem?_eq_some_iff.1 ah).1;rw[eO d (by rw[cQ];exact aG)];rw[getElem_map,(List.getElem?_eq_some_iff.1 ah).2]
theorem arQ(x:UInt8)(a b:Nat):List.replicate a x++(List.replicate a x).take b=List.replicate (a+min b a) x:=by
 rw[take_replicate,replicate_append_replicate]
theorem aaX(g L q:Nat)(W:ai)(h:q<L):(Instr.slice 87 (.slice (some ⟨g,0,none⟩) L L) (some (.int .i64 q)) none none).run prog W=.ok (.slice (some ⟨g,q,none⟩) (L-q) (L-q)) W:=by
 have h1:(q:Int)<=L:=by omega
 have af:¬L=q:=by omega
 have aq:q<=L:=by omega
 go_simp
theorem aqU(g L q:Nat)(W:ai)(h:q<=L):(Instr.slice 87 (.slice (some ⟨g,0,none⟩) L L) none (some (.int .i64 q)) none).run prog W=.ok (.slice (some ⟨g,0,none⟩) q L) W:=by
 have h1:(q:Int)<=L:=by omega
 go_simp
theorem aox(A:a7)(c x n:Nat)(w:ai)(ah:x<256)(am:1<=n)(az:n<=4096)(aj:Reads w A (aN [x])) :
  Calls prog 181 #[.slice A 1 c,.int .i64 n] w λe w'=>(∃de df,e=.returned (.slice de n df)/\Reads w' de (aN (List.replicate n x)))/\Below w.heap.size w w':=by
 obtain⟨g,off,rfl,hc⟩:=nA aj (by simp);have c0:=hc 0 (by simp);rw[ga]at c0;simp only[getElem_cons_zero]at c0;have hm:=Te 1 n (by omega) (by omega) w;rw[Nat.one_mul,div_eq_of_lt (by omega:n<18446744073709551616),mod_eq_of_lt (by omega:n<18446744073709551616)]at hm;have ci:=I hm;have d0:((n:Int) == 0)=false:=cz
 have d1:decide ((n:Int)<0)=false:=aT;have hw:IntKind.u64.wrap (n:Int)=n:=by rw[IntKind.wrap_u64];omega
 have nv:IntKind.i64.wrap (n:Int)=n:=IntWalk.i64_in _ (by omega);have d2:decide ((9223372036854775807:Int)<n)=false:=aT;have d3:decide (9223372036854775807<n)=false:=aT;have d4:decide ((8192:Int)<n)=false:=aT;obtain⟨ag,hrunM,hle,_⟩:=Lib.run_makeNoZero (P:=prog) w #[3] 87 5 underlying87 n (by omega);have hcall:(callFunc 124 #[.int .i64 n]).run prog w=.ok (.value (.slice (some ⟨w.heap.size,0,none⟩) n ag.size)) ((w.alloc (.cells ag 5)).drewN 2):=by
  rw[run_callFunc_extern func124 (by kernel_rfl) (by kernel_rfl) (by kernel_rfl) (e:=Extern.BytealgMakeNoZero.makeNoZero #[3] #[87]) (by kernel_rfl),hrunM];rfl
 have lv:=Lib.Buf.start w ag 5 n 2 hle;have XZ:((UInt8.ofNat x).toNat:Int)=x:=by rw[UInt8.toNat_ofNat_of_lt' ah]
 obtain⟨au,cd,Jf⟩:=Lib.copy_part (P:=prog) w _ w.heap.size n [] [UInt8.ofNat x] (.slice (some ⟨g,off,none⟩) 1 c) 87 3 5 underlying87 (by kernel_rfl) bh lv ⟨some ⟨g,off,none⟩,c,rfl,(λh=>by cases h),λa aS i y hy=>by
  injection aS with aS
  subst aS;match i,hy with
  | 0,hy=>
   simp at hy;subst hy;rw[XZ];simpa [Addr.add]using c0⟩ (by simpa using am)
 rw[length_nil,Lib.tailV_zero]at cd;rw[nil_append]at Jf;have i0:(0:Int)<=n:=by omega
 have i1:(n:Int)<=(ag.size:Int):=by omega
 have lW:=I Jf;clear hm aj hc hrunM lv Jf;go_enter func181,ntmps181
 go_wp2_with fail
 refine ci.out.mono ?_;rintro e w' ⟨rfl,rfl⟩;go_wp2_with (at_builtin;refine Lib.wpList_copy_run _ rfl _ _ 87 87 rfl _ _ rfl rfl cd ?_)
 clear hcall cd;have bU:=I (λyN tX W=>aaX w'.heap.size n yN W tX);go_wp2;go_loopw [10,11] (λyN _ wr=>∃k:Nat,yN=.int .i64 k/\1<=k/\k<=n/\Hid (Lib.Buf w' wr w'.heap.size n (List.replicate k (UInt8.ofNat x)))) (λyN _ _=>n-(intOf yN).toNat)
 case atStart=>exact⟨1,rfl,by omega,am,lW⟩
 case round=>
  obtain⟨k,rfl,eu,lj,hbuf⟩:=hrel;clear lW;by_cases av:k<n
  .obtain⟨d,aG⟩:∃d,d=min k (n-k):=⟨_,rfl⟩;obtain⟨a1,li,Fx⟩:=agF w' wr.drew w'.heap.size n k (List.replicate k (UInt8.ofNat x)) 3 (afO hbuf.out) (by rw[jl];exact Nat.le_refl _) (by rw[jl];exact av);rw[jl,<-aG]at li Fx;rw[arQ,show k+min d k=k+d by omega]at Fx;have acr:=I Fx;have jB:=λW=>aaX w'.heap.size n k W av
   have gT:=λW=>aqU w'.heap.size n k W lj
   have hmin:min (k:Int) (n:Int)=k:=by omega
   have j3:1<=d/\k+d<=n:=by omega
   clear hbuf Fx aG bU;go_upto_region 20 with fail
   refine wp_region_held_drew (S:=(λ_:ai=>True)) (by kernel_rfl) (by trivial) (λhHeld=>?_);refine ch 0 {dst:=some 67,op:=.move (.tmp 10),type:=3,pos:= "bytes.go:672",after:=#[],guard:=none} ?_ rfl (Or.inl ⟨by rfl,?_⟩) ?_;rotate_left
   ·(intro w hSw;(try dsimp only at hSw);go_simp;(try with_reducible rfl))
   try simp only[bx]
   refine ch 1 {dst:=some 68,op:=.move (.tmp 9),type:=87,pos:= "bytes.go:672",after:=#[],guard:=none} ?_ rfl (Or.inl ⟨by rfl,?_⟩) ?_;rotate_left
   ·(intro w hSw;(try dsimp only at hSw);go_simp;(try with_reducible rfl))
   try simp only[bx]
   refine ch 2 {dst:=some 69,op:=.move (.tmp 10),type:=3,pos:= "bytes.go:672",after:=#[],guard:=none} ?_ rfl (Or.inl ⟨by rfl,?_⟩) ?_;rotate_left
   ·(intro w hSw;(try dsimp only at hSw);go_simp;(try with_reducible rfl))
   try simp only[bx]
   refine ch 3 {dst:=some 70,op:=.slice 87 (.tmp 68) (some (.tmp 69)) none none,type:=87,pos:= "bytes.go:672",after:=#[{on:=1,ground:=.data},{on:=2,ground:=.data}],guard:=none} ?_ rfl (Or.inl ⟨by rfl,?_⟩) ?_;rotate_left
   ·(intro w hSw;(try dsimp only at hSw);go_simp;(try with_reducible rfl))
   try simp only[bx]
   refine ch 4 {dst:=some 71,op:=.move (.tmp 9),type:=87,pos:= "bytes.go:672",after:=#[],guard:=none} ?_ rfl (Or.inl ⟨by rfl,?_⟩) ?_;rotate_left
   ·(intro w hSw;(try dsimp only at hSw);go_simp;(try with_reducible rfl))
   try simp only[bx]
   refine ch 5 {dst:=some 72,op:=.move (.tmp 11),type:=3,pos:= "bytes.go:672",after:=#[],guard:=none} ?_ rfl (Or.inl ⟨by rfl,?_⟩) ?_;rotate_left
   ·(intro w hSw;(try dsimp only at hSw);go_simp;(try with_reducible rfl))
   try simp only[bx]
   refine ch 6 {dst:=some 73,op:=.slice 87 (.tmp 71) none (some (.tmp 72)) none,type:=87,pos:= "bytes.go:672",after:=#[{on:=4,ground:=.data},{on:=5,ground:=.data}],guard:=none} ?_ rfl (Or.inl ⟨by rfl,?_⟩) ?_;rotate_left
   ·(intro w hSw;(try dsimp only at hSw);go_simp;(try with_reducible rfl))
   try simp only[bx]
   refine iq 7 {dst:=some 74,op:=.call {callee:=.builtin .copy,args:=#[.tmp 70,.tmp 73],argTypes:=#[87,87]},type:=3,pos:= "bytes.go:672",after:=#[{on:=3,ground:=.data},{on:=6,ground:=.data}],guard:=none} rfl (λK hK=>?_)
   (refine Lib.wp_copy_run _ (.tmp 70) (.tmp 73) 87 87 rfl _ _ rfl rfl li ?_)
   refine hK.out _ _ (by trivial) (λhHeld=>?_);clear hK K
   try simp only[bx]
   refine ch 8 {dst:=some 75,op:=.binOp .add 3 (.tmp 67) (.tmp 74) 3,type:=3,pos:= "bytes.go:672",after:=#[{on:=0,ground:=.data},{on:=7,ground:=.data}],guard:=none} ?_ rfl (Or.inl ⟨by rfl,?_⟩) ?_;rotate_left
   ·(intro w hSw;(try dsimp only at hSw);go_simp;(try with_reducible rfl))
   try simp only[bx]
   refine ch 9 {dst:=some 10,op:=.assign (.tmp 75),type:=3,pos:= "bytes.go:672",after:=#[{on:=8,ground:=.data},{on:=7,ground:=.chain},{on:=0,ground:=.phase},{on:=1,ground:=.phase},{on:=2,ground:=.phase},{on:=3,ground:=.phase},{on:=4,ground:=.phase},{on:=5,ground:=.phase},{on:=6,ground:=.phase},{on:=7,ground:=.phase},{on:=8,ground:=.phase}],guard:=none} ?_ rfl (Or.inl ⟨by rfl,?_⟩) ?_;rotate_left
   ·(intro w hSw;(try dsimp only at hSw);go_simp;(try with_reducible rfl))
   try simp only[bx]
   refine wpAnyH_done (by kernel_rfl) ?_ _;have D4:IntKind.i64.wrap ((k:Int)+d)=((k+d:Nat):Int):=by rw[IntWalk.i64_in _ (by omega)];omega
   rw[D4];generalize hq:k+d=q at *;clear li jB gT D4;go_wp2;go_roundw
   case rel=>exact⟨q,rfl,by omega,by omega,acr⟩
   case measure=>simp[intOf];omega
  .obtain rfl:k=n:=by omega
   have dw:Hid (Reads wr (some ⟨w'.heap.size,0,none⟩) (aN (List.replicate k x))/\Below w'.heap.size w' wr):=I ⟨λ_=>⟨_,0,rfl,λj ar=>by
    rw[jn,jl]at ar;rw[eH,hbuf.out.holds j (UInt8.ofNat x) (by rw[getElem?_replicate];rw[aA ar]),XZ,jF _ j (by rw[jl];exact ar),getElem_replicate]⟩,hbuf.out.below⟩
   clear hbuf;go_wp2;go_ret;exact⟨⟨_,_,rfl,dw.out.1⟩,dw.out.2⟩
end Go.Proofs.YtgiicohbigiapaaGreat
