/- Contracts. -/
import Derived.Test.YtgiicohbigiapaaGreatOad
import Derived.Shelf.Bits.Mul64
import Derived.Lib.SlBuf
import Derived.Deep.RegionHeld3
import Derived.Lib.MakeNoZero
import Derived.Test.YtgiicohbigiapaaGreatOz2
import Derived.Test.YtgiicohbigiapaaGreatOz1
import Derived.Test.YtgiicohbigiapaaGreatOz0
set_option maxHeartbeats 4000000
set_option maxRecDepth 100000
open Go.Proofs.Tryz Go.Proofs.YtgiicohbigiapaaGreat.am List Nat Option
namespace Go.Proofs.YtgiicohbigiapaaGreat
open Go.Shelf Go.RowKit
def afL:Go.Shelf.Ren:=⟨fun|212=>50|263=>87|264=>88|n=>n,fun|46=>88|51=>132|53=>31|146=>137|148=>139|n=>n,fun|n=>n⟩
theorem afK:Lays.n212 prog afL:={
 mixed:=by kernel_rfl
 f212:=Tryz.func50.trans (congrArg some (by kernel_rfl))
 f263:=Tryz.func87.trans (congrArg some (by kernel_rfl))
 f264:=Tryz.func88.trans (congrArg some (by kernel_rfl))
 t46:=underlying88
 a46:=Tryz.isAgg88
 z46:=Tryz.sizeOf88
 v46:=Tryz.zeroValue88
 t51:=underlying132
 a51:=Tryz.isAgg132
 z51:=Tryz.sizeOf132
 v51:=Tryz.zeroValue132
 t53:=underlying31
 a53:=Tryz.isAgg31
 z53:=Tryz.sizeOf31
 v53:=Tryz.zeroValue31
 t146:=underlying137
 a146:=Tryz.isAgg137
 z146:=Tryz.sizeOf137
 v146:=Tryz.zeroValue137
 t148:=underlying139
 a148:=Tryz.isAgg139
 z148:=Tryz.sizeOf139
 v148:=Tryz.zeroValue139}
theorem Ri(x y:Nat)(ai:x<18446744073709551616)(hy:y<18446744073709551616)(w:ah) :
  Calls prog 50 #[.int .u64 x,.int .u64 y] w λe w'=>e=.returned (.tuple #[.int .u64 ((x*y/18446744073709551616:Nat):Int),.int .u64 ((x*y%18446744073709551616:Nat):Int)])/\w'=w:=Any.bits_Mul afK x y ai hy w
theorem aoT(A:a7)(c n:Nat)(w:ah)(ao:1<=n)(aA:n<=4096) :
  Calls prog 181 #[.slice A 0 c,.int .i64 n] w λe w'=>(∃da db,e=.returned (.slice da 0 db))/\av w w':=by
 have hm:=Ri 0 n (by omega) (by omega) w;rw[Nat.zero_mul]at hm;have cj:=I hm;have d0:((n:Int)==0)=false:=cz
 have d1:decide ((n:Int)<0)=false:=aU;have hw:IntKind.u64.wrap (n:Int)=n:=by rw[IntKind.wrap_u64];omega
 clear hm;go_enter func181,ntmps181
 go_wp2_with fail
 refine cj.out.mono ?_;rintro e w' ⟨rfl,rfl⟩;go_wp2;go_ret;exact⟨⟨_,_,rfl⟩,by first|exact Below.refl _ _|exact dM.alloc bl _⟩
theorem af4{w0 wr:ah}{h N:Nat}{acc:List UInt8}(ak:Lib.Buf w0 wr h N acc):Lib.Buf w0 wr.drew h N acc:=⟨ak.below.drew,ak.there,ak.free,ak.holds,ak.fits⟩
theorem agY(w0 wr:ah)(h N m:Nat)(acc:List UInt8)(ty:TypeId)(ak:Lib.Buf w0 wr h N acc)(hm:m<=acc.length)(hfit:acc.length<N) :
  ∃aac,(Builtin.copy_ #[87,87] ty #[.slice (some ⟨h,acc.length,none⟩) (N-acc.length) (N-acc.length),.slice (some ⟨h,0,none⟩) m N]).run prog wr=.ok (goInt ((min m (N-acc.length):Nat):Int)) aac/\Lib.Buf w0 aac h N (acc++acc.take (min m (N-acc.length))):=by
 obtain⟨k,hk⟩:∃k,k=min m (N-acc.length):=⟨_,rfl⟩;rw[<-hk];have a8:k<=acc.length:=by omega
 have aj:=run_copy_cells (P:=prog) wr 87 87 ty 5 h acc.length (N-acc.length) (N-acc.length) ⟨h,0,none⟩ m N ((acc.take k).map λx=>Value.int .u8 (x.toNat:Int)) underlying87 (by kernel_rfl) (by rw[cQ,cr,Nat.min_eq_left a8,hk])
  (λj u ar=>by
   rw[getElem?_map]at ar;obtain⟨x,ai,rfl⟩:=Option.map_eq_some_iff.1 ar;rw[zO];refine ak.holds j x ?_;have ajZ:j<k:=by
    have:=(List.getElem?_eq_some_iff.1 ai).1;rw[cr]at this;omega
   rw[getElem?_take_of_lt ajZ]at ai;exact ai)
  (λj ar=>by rw[cQ,cr]at ar;exact ak.there _ (by omega)) (λj ar=>by rw[cQ,cr]at ar;exact ak.free _ (by omega))
  (λu akI=>by obtain⟨x,_,rfl⟩:=List.mem_map.1 akI;rfl)
 rw[cQ,cr,Nat.min_eq_left a8]at aj;refine⟨_,aj,?_⟩;have iq:((acc.take k).map λx=>Value.int .u8 (x.toNat:Int)).length=k:=by rw[cQ,cr,Nat.min_eq_left a8]
 have eZ:=World.cell?_setCells_in h ((acc.take k).map λx=>Value.int .u8 (x.toNat:Int)) acc.length wr (λj ar=>by rw[iq]at ar;exact ak.there _ (by omega));have hout:=World.cell?_setCells_out h ((acc.take k).map λx=>Value.int .u8 (x.toNat:Int)) acc.length wr;rw[iq]at hout;refine⟨?_,?_,?_,?_,by rw[aY,cr];omega⟩
 .exact Lib.below_setCells h bl _ _ ak.below
 .intro j ar;by_cases h1:acc.length<=j/\j<acc.length+k
  .obtain⟨d,rfl⟩:∃d,j=acc.length+d:=⟨j-acc.length,by omega⟩;rw[eZ d (by rw[iq];omega)];rfl
  .rw[hout ⟨h,j,none⟩ (λ_ _=>by show j<_\/_<=j;omega)];exact ak.there j ar
 .intro j ar;rw[World.frozen?_setCells];exact ak.free j ar
 .intro j x ai;by_cases h1:j<acc.length
  .rw[hO h1]at ai;rw[hout ⟨h,j,none⟩ (λ_ _=>Or.inl h1)];exact ak.holds j x ai
  .rw[iY (by omega)]at ai;obtain⟨d,rfl⟩:∃d,j=acc.length+d:=⟨j-acc.length,by omega⟩;rw[Nat.add_sub_cancel_left]at ai;have aI:d<(acc.take k).length:=(List.getElem?_eq_some_iff.1 ai).1;rw[eZ d (by rw[cQ];exact aI)];rw[getElem_map,(List.getElem?_eq_some_iff.1 ai).2]
theorem asa(x:UInt8)(a b:Nat):List.replicate a x++(List.replicate a x).take b=List.replicate (a+min b a) x:=by
 rw[take_replicate,replicate_append_replicate]
theorem Y6(g L q:Nat)(W:ah)(h:q<L):(Instr.slice 87 (.slice (some ⟨g,0,none⟩) L L) (some (.int .i64 q)) none none).run prog W=.ok (.slice (some ⟨g,q,none⟩) (L-q) (L-q)) W:=by
 have h1:(q:Int)<=L:=by omega
 have af:¬L=q:=by omega
 have aq:q<=L:=by omega
 go_simp
theorem arh(g L q:Nat)(W:ah)(h:q<=L):(Instr.slice 87 (.slice (some ⟨g,0,none⟩) L L) none (some (.int .i64 q)) none).run prog W=.ok (.slice (some ⟨g,0,none⟩) q L) W:=by
 have h1:(q:Int)<=L:=by omega
 go_simp
theorem aoU(A:a7)(c x n:Nat)(w:ah)(ai:x<256)(ao:1<=n)(aA:n<=4096)(aj:Reads w A (aO [x])) :
  Calls prog 181 #[.slice A 1 c,.int .i64 n] w λe w'=>(∃da db,e=.returned (.slice da n db)/\Reads w' da (aO (List.replicate n x)))/\av w w':=by
 obtain⟨g,off,rfl,hc⟩:=m9 aj (by simp);have c0:=hc 0 (by simp);rw[fX]at c0;simp only[getElem_cons_zero]at c0;have hm:=Ri 1 n (by omega) (by omega) w;rw[Nat.one_mul,div_eq_of_lt (by omega:n<18446744073709551616),mod_eq_of_lt (by omega:n<18446744073709551616)]at hm;have cj:=I hm;have d0:((n:Int)==0)=false:=cz
 have d1:decide ((n:Int)<0)=false:=aU;have hw:IntKind.u64.wrap (n:Int)=n:=by rw[IntKind.wrap_u64];omega
 have mX:IntKind.i64.wrap (n:Int)=n:=IntWalk.i64_in _ (by omega);have d2:decide ((9223372036854775807:Int)<n)=false:=aU;have d3:decide (9223372036854775807<n)=false:=aU;have d4:decide ((8192:Int)<n)=false:=aU;obtain⟨ag,hrunM,hle,_⟩:=Lib.run_makeNoZero (P:=prog) w #[3] 87 5 underlying87 n (by omega);have hcall:(callFunc 124 #[.int .i64 n]).run prog w=.ok (.value (.slice (some ⟨w.heap.size,0,none⟩) n ag.size)) ((w.alloc (.cells ag 5)).drewN 2):=by
  rw[run_callFunc_extern func124 (by kernel_rfl) (by kernel_rfl) (by kernel_rfl) (e:=Extern.BytealgMakeNoZero.makeNoZero #[3] #[87]) (by kernel_rfl),hrunM];rfl
 have li:=Lib.Buf.start w ag 5 n 2 hle;have V5:((UInt8.ofNat x).toNat:Int)=x:=by rw[UInt8.toNat_ofNat_of_lt' ai]
 obtain⟨aw,cg,H2⟩:=Lib.copy_part (P:=prog) w _ w.heap.size n [] [UInt8.ofNat x] (.slice (some ⟨g,off,none⟩) 1 c) 87 3 5 underlying87 (by kernel_rfl) bl li ⟨some ⟨g,off,none⟩,c,rfl,(λh=>by cases h),λa aV i y hy=>by
  injection aV with aV
  subst aV;match i,hy with
 |0,hy=>
   simp at hy;subst hy;rw[V5];simpa [Addr.add]using c0⟩ (by simpa using ao)
 rw[length_nil,Lib.tailV_zero]at cg;rw[nil_append]at H2;have i0:(0:Int)<=n:=by omega
 have i1:(n:Int)<=(ag.size:Int):=by omega
 have mF:=I H2;clear hm aj hc hrunM li H2;go_enter func181,ntmps181
 go_wp2_with fail
 refine cj.out.mono ?_;rintro e w' ⟨rfl,rfl⟩;go_wp2_with (at_builtin;refine Lib.wpList_copy_run _ rfl _ _ 87 87 rfl _ _ rfl rfl cg ?_)
 clear hcall cg;have ca:=I (λxR tl W=>Y6 w'.heap.size n xR W tl);go_wp2;go_loopw [10,11] (λxR _ wr=>∃k:Nat,xR=.int .i64 k/\1<=k/\k<=n/\Hid (Lib.Buf w' wr w'.heap.size n (List.replicate k (UInt8.ofNat x)))) (λxR _ _=>n-(intOf xR).toNat)
 case atStart=>exact⟨1,rfl,by omega,ao,mF⟩
 case round=>
  obtain⟨k,rfl,ek,kG,hbuf⟩:=hrel;by_cases au:k<n
  .obtain⟨d,aI⟩:∃d,d=min k (n-k):=⟨_,rfl⟩;obtain⟨a6,k6,EC⟩:=agY w' wr.drew w'.heap.size n k (List.replicate k (UInt8.ofNat x)) 3 (af4 hbuf.out) (by rw[iZ];exact Nat.le_refl _) (by rw[iZ];exact au);rw[iZ,<-aI]at k6 EC;rw[asa,show k+min d k=k+d by omega]at EC;have aaC:=I EC;have hM:=λW=>Y6 w'.heap.size n k W au
   have gd:=λW=>arh w'.heap.size n k W kG
   have hmin:min (k:Int) (n:Int)=k:=by omega
   have jP:1<=d/\k+d<=n:=by omega
   clear hbuf EC aI;go_upto_region 20 with fail
   refine wp_region_held_drew (S:=(λ_:ah=>True)) (by kernel_rfl) (by trivial) (λhHeld=>?_);refine bJ 0 {dst:=some 67,op:=.move (.tmp 10),type:=3,pos:= "bytes.go:672",after:=#[],guard:=none} ?_ rfl (Or.inl ⟨by rfl,?_⟩) ?_;rotate_left
   ·(intro w hSw;(try dsimp only at hSw);go_simp;(try with_reducible rfl))
   try simp only[bf]
   refine bJ 1 {dst:=some 68,op:=.move (.tmp 9),type:=87,pos:= "bytes.go:672",after:=#[],guard:=none} ?_ rfl (Or.inl ⟨by rfl,?_⟩) ?_;rotate_left
   ·(intro w hSw;(try dsimp only at hSw);go_simp;(try with_reducible rfl))
   try simp only[bf]
   refine bJ 2 {dst:=some 69,op:=.move (.tmp 10),type:=3,pos:= "bytes.go:672",after:=#[],guard:=none} ?_ rfl (Or.inl ⟨by rfl,?_⟩) ?_;rotate_left
   ·(intro w hSw;(try dsimp only at hSw);go_simp;(try with_reducible rfl))
   try simp only[bf]
   refine bJ 3 {dst:=some 70,op:=.slice 87 (.tmp 68) (some (.tmp 69)) none none,type:=87,pos:= "bytes.go:672",after:=#[{on:=1,ground:=.data},{on:=2,ground:=.data}],guard:=none} ?_ rfl (Or.inl ⟨by rfl,?_⟩) ?_;rotate_left
   ·(intro w hSw;(try dsimp only at hSw);go_simp;(try with_reducible rfl))
   try simp only[bf]
   refine bJ 4 {dst:=some 71,op:=.move (.tmp 9),type:=87,pos:= "bytes.go:672",after:=#[],guard:=none} ?_ rfl (Or.inl ⟨by rfl,?_⟩) ?_;rotate_left
   ·(intro w hSw;(try dsimp only at hSw);go_simp;(try with_reducible rfl))
   try simp only[bf]
   refine bJ 5 {dst:=some 72,op:=.move (.tmp 11),type:=3,pos:= "bytes.go:672",after:=#[],guard:=none} ?_ rfl (Or.inl ⟨by rfl,?_⟩) ?_;rotate_left
   ·(intro w hSw;(try dsimp only at hSw);go_simp;(try with_reducible rfl))
   try simp only[bf]
   refine bJ 6 {dst:=some 73,op:=.slice 87 (.tmp 71) none (some (.tmp 72)) none,type:=87,pos:= "bytes.go:672",after:=#[{on:=4,ground:=.data},{on:=5,ground:=.data}],guard:=none} ?_ rfl (Or.inl ⟨by rfl,?_⟩) ?_;rotate_left
   ·(intro w hSw;(try dsimp only at hSw);go_simp;(try with_reducible rfl))
   try simp only[bf]
   refine hd 7 {dst:=some 74,op:=.call {callee:=.builtin .copy,args:=#[.tmp 70,.tmp 73],argTypes:=#[87,87]},type:=3,pos:= "bytes.go:672",after:=#[{on:=3,ground:=.data},{on:=6,ground:=.data}],guard:=none} rfl (λK hK=>?_)
   (refine Lib.wp_copy_run _ (.tmp 70) (.tmp 73) 87 87 rfl _ _ rfl rfl k6 ?_)
   refine hK.out _ _ (by trivial) (λhHeld=>?_);clear hK K
   try simp only[bf]
   refine bJ 8 {dst:=some 75,op:=.binOp .add 3 (.tmp 67) (.tmp 74) 3,type:=3,pos:= "bytes.go:672",after:=#[{on:=0,ground:=.data},{on:=7,ground:=.data}],guard:=none} ?_ rfl (Or.inl ⟨by rfl,?_⟩) ?_;rotate_left
   ·(intro w hSw;(try dsimp only at hSw);go_simp;(try with_reducible rfl))
   try simp only[bf]
   refine bJ 9 {dst:=some 10,op:=.assign (.tmp 75),type:=3,pos:= "bytes.go:672",after:=#[{on:=8,ground:=.data},{on:=7,ground:=.chain},{on:=0,ground:=.phase},{on:=1,ground:=.phase},{on:=2,ground:=.phase},{on:=3,ground:=.phase},{on:=4,ground:=.phase},{on:=5,ground:=.phase},{on:=6,ground:=.phase},{on:=7,ground:=.phase},{on:=8,ground:=.phase}],guard:=none} ?_ rfl (Or.inl ⟨by rfl,?_⟩) ?_;rotate_left
   ·(intro w hSw;(try dsimp only at hSw);go_simp;(try with_reducible rfl))
   try simp only[bf]
   refine wpAnyH_done (by kernel_rfl) ?_ _;have Dc:IntKind.i64.wrap ((k:Int)+d)=((k+d:Nat):Int):=by rw[IntWalk.i64_in _ (by omega)];omega
   rw[Dc];generalize hq:k+d=q at *;clear k6 hM gd Dc;go_wp2;go_roundw
   case rel=>exact⟨q,rfl,by omega,by omega,aaC⟩
   case measure=>simp[intOf];omega
  .obtain rfl:k=n:=by omega
   have dO:Hid (Reads wr (some ⟨w'.heap.size,0,none⟩) (aO (List.replicate k x))/\av w' wr):=I ⟨λ_=>⟨_,0,rfl,λj ar=>by
    rw[i7,iZ]at ar;rw[ez,hbuf.out.holds j (UInt8.ofNat x) (by rw[getElem?_replicate];rw[aB ar]),V5,jq _ j (by rw[iZ];exact ar),getElem_replicate]⟩,hbuf.out.below⟩
   clear hbuf;go_wp2;go_ret;exact⟨⟨_,_,rfl,dO.out.1⟩,dO.out.2⟩
end Go.Proofs.YtgiicohbigiapaaGreat
