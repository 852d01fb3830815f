/- Contracts, and what they rest on. Conditions: the theorems' premises. -/
import Derived.Test.YtaebnkeddcbmkaaGreatYad
import Derived.Shelf.Bits.Mul64
import Derived.Lib.SlBuf
import Derived.Deep.RegionHeld3
import Derived.Lib.MakeNoZero
set_option maxHeartbeats 4000000
set_option maxRecDepth 100000
open Go.Lib(hid)
open Go.Proofs.Tryz
namespace Go.Proofs.YtaebnkeddcbmkaaGreat
open Go.Shelf Go.RowKit
def als:Go.Shelf.Ren:=⟨fun | 212=>56 | 263=>84 | 264=>85 | n=>n,fun | 46=>100 | 51=>139 | 53=>36 | 146=>140 | 148=>142 | n=>n,fun | n=>n⟩
theorem air:Lays.n212 prog als:={
 mixed:=by kernel_rfl
 f212:=Tryz.func56.trans (congrArg some (by kernel_rfl))
 f263:=Tryz.func84.trans (congrArg some (by kernel_rfl))
 f264:=Tryz.func85.trans (congrArg some (by kernel_rfl))
 t46:=underlying100
 a46:=Tryz.isAgg100
 z46:=Tryz.sizeOf100
 v46:=Tryz.zeroValue100
 t51:=underlying139
 a51:=Tryz.isAgg139
 z51:=Tryz.sizeOf139
 v51:=Tryz.zeroValue139
 t53:=underlying36
 a53:=Tryz.isAgg36
 z53:=Tryz.sizeOf36
 v53:=Tryz.zeroValue36
 t146:=underlying140
 a146:=Tryz.isAgg140
 z146:=Tryz.sizeOf140
 v146:=Tryz.zeroValue140
 t148:=underlying142
 a148:=Tryz.isAgg142
 z148:=Tryz.sizeOf142
 v148:=Tryz.zeroValue142}
theorem KG(x y:Nat)(hx:x<18446744073709551616)(hy:y<18446744073709551616)(w:World) :
  Calls prog 56 #[.int .u64 x,.int .u64 y] w fun e w'=>e=.returned (.tuple #[.int .u64 ((x*y/18446744073709551616:Nat):Int),.int .u64 ((x*y%18446744073709551616:Nat):Int)])/\w'=w:=Any.bits_Mul air x y hx hy w
theorem aaP(A:Option Addr)(c n:Nat)(w:World)(h0:1<=n)(hn:n<=4096) :
  Calls prog 163 #[.slice A 0 c,.int .i64 (n:Int)] w fun e w'=>(∃A' c',e=.returned (.slice A' 0 c'))/\Below w.heap.size w w':=by
 have hm:=KG 0 n (by omega) (by omega) w;rw[Nat.zero_mul]at hm;have Hm:=hid hm;have d0:((n:Int) == 0)=false:=by rw[beq_eq_false_iff_ne];omega
 have d1:decide ((n:Int)<0)=false:=decide_eq_false (by omega);have hw:IntKind.u64.wrap (n:Int)=(n:Int):=by rw[IntKind.wrap_u64];omega
 clear hm;go_enter func163,ntmps163
 go_wp2_with fail
 refine Hm.out.mono ?_;rintro e w' ⟨rfl,rfl⟩;go_wp2;go_ret;exact⟨⟨_,_,rfl⟩,by first | exact Below.refl _ _ | exact(Below.refl _ _).alloc (Nat.le_refl _) _⟩
theorem RV{w0 wr:World}{h N:Nat}{acc:List UInt8}(hb:Lib.Buf w0 wr h N acc):Lib.Buf w0 wr.drew h N acc:=⟨hb.below.drew,hb.there,hb.free,hb.holds,hb.fits⟩
theorem ND(w0 wr:World)(h N m:Nat)(acc:List UInt8)(ty:TypeId)(hb:Lib.Buf w0 wr h N acc)(hm:m<=acc.length)(hfit:acc.length<N) :
  ∃wr',(Builtin.copy_ #[60,60] ty #[.slice (some ⟨h,acc.length,none⟩) (N-acc.length) (N-acc.length),.slice (some ⟨h,0,none⟩) m N]).run prog wr=.ok (goInt ((min m (N-acc.length):Nat):Int)) wr'/\Lib.Buf w0 wr' h N (acc++acc.take (min m (N-acc.length))):=by
 obtain⟨k,hk⟩:∃k,k=min m (N-acc.length):=⟨_,rfl⟩;rw[<-hk];have hkl:k<=acc.length:=by omega
 have hr:=run_copy_cells (P:=prog) wr 60 60 ty 5 h acc.length (N-acc.length) (N-acc.length) ⟨h,0,none⟩ m N ((acc.take k).map fun x=>Value.int .u8 (x.toNat:Int)) underlying60 (by kernel_rfl) (by rw[List.length_map,List.length_take,Nat.min_eq_left hkl,hk])
  (fun j u hj=>by
   rw[List.getElem?_map]at hj;obtain⟨x,hx,rfl⟩:=Option.map_eq_some_iff.1 hj;rw[iB];refine hb.holds j x ?_;have hjk:j<k:=by
    have:=(List.getElem?_eq_some_iff.1 hx).1;rw[List.length_take]at this;omega
   rw[List.getElem?_take_of_lt hjk]at hx;exact hx)
  (fun j hj=>by rw[List.length_map,List.length_take]at hj;exact hb.there _ (by omega)) (fun j hj=>by rw[List.length_map,List.length_take]at hj;exact hb.free _ (by omega))
  (fun u hu'=>by obtain⟨x,_,rfl⟩:=List.mem_map.1 hu';rfl)
 rw[List.length_map,List.length_take,Nat.min_eq_left hkl]at hr;refine⟨_,hr,?_⟩;have hll:((acc.take k).map fun x=>Value.int .u8 (x.toNat:Int)).length=k:=by rw[List.length_map,List.length_take,Nat.min_eq_left hkl]
 have hin:=World.cell?_setCells_in h ((acc.take k).map fun x=>Value.int .u8 (x.toNat:Int)) acc.length wr (fun j hj=>by rw[hll]at hj;exact hb.there _ (by omega));have hout:=World.cell?_setCells_out h ((acc.take k).map fun x=>Value.int .u8 (x.toNat:Int)) acc.length wr;rw[hll]at hout;refine⟨?_,?_,?_,?_,by rw[List.length_append,List.length_take];omega⟩
 ·exact Lib.below_setCells h (Nat.le_refl _) _ _ hb.below
 ·intro j hj;by_cases h1:acc.length<=j/\j<acc.length+k
  ·obtain⟨d,rfl⟩:∃d,j=acc.length+d:=⟨j-acc.length,by omega⟩;rw[hin d (by rw[hll];omega)];rfl
  ·rw[hout ⟨h,j,none⟩ (fun _ _=>by show j<_\/_<=j;omega)];exact hb.there j hj
 ·intro j hj;rw[World.frozen?_setCells];exact hb.free j hj
 ·intro j x hx;by_cases h1:j<acc.length
  ·rw[List.getElem?_append_left h1]at hx;rw[hout ⟨h,j,none⟩ (fun _ _=>Or.inl h1)];exact hb.holds j x hx
  ·rw[List.getElem?_append_right (by omega)]at hx;obtain⟨d,rfl⟩:∃d,j=acc.length+d:=⟨j-acc.length,by omega⟩;rw[Nat.add_sub_cancel_left]at hx;have hd:d<(acc.take k).length:=(List.getElem?_eq_some_iff.1 hx).1;rw[hin d (by rw[List.length_map];exact hd)];rw[List.getElem_map,(List.getElem?_eq_some_iff.1 hx).2]
theorem abK(x:UInt8)(a b:Nat):List.replicate a x++(List.replicate a x).take b=List.replicate (a+min b a) x:=by
 rw[List.take_replicate,List.replicate_append_replicate]
theorem yj(g L q:Nat)(W:World)(h:q<L):(Instr.slice 60 (.slice (some ⟨g,0,none⟩) L L) (some (.int .i64 (q:Int))) none none).run prog W=.ok (.slice (some ⟨g,q,none⟩) (L-q) (L-q)) W:=by
 have h1:(q:Int)<=(L:Int):=by omega
 have h2:¬L=q:=by omega
 have h3:q<=L:=by omega
 go_simp
theorem Wx(g L q:Nat)(W:World)(h:q<=L):(Instr.slice 60 (.slice (some ⟨g,0,none⟩) L L) none (some (.int .i64 (q:Int))) none).run prog W=.ok (.slice (some ⟨g,0,none⟩) q L) W:=by
 have h1:(q:Int)<=(L:Int):=by omega
 go_simp
theorem aaQ(A:Option Addr)(c x n:Nat)(w:World)(hx:x<256)(h0:1<=n)(hn:n<=4096)(hr:Reads w A (u8s [x])) :
  Calls prog 163 #[.slice A 1 c,.int .i64 (n:Int)] w fun e w'=>(∃A' c',e=.returned (.slice A' n c')/\Reads w' A' (u8s (List.replicate n x)))/\Below w.heap.size w w':=by
 obtain⟨g,off,rfl,hc⟩:=gu hr (by simp);have c0:=hc 0 (by simp);rw[Nat.add_zero]at c0;simp only[List.getElem_cons_zero]at c0;have hm:=KG 1 n (by omega) (by omega) w;rw[Nat.one_mul,Nat.div_eq_of_lt (by omega:n<18446744073709551616),Nat.mod_eq_of_lt (by omega:n<18446744073709551616)]at hm;have Hm:=hid hm;have d0:((n:Int) == 0)=false:=by rw[beq_eq_false_iff_ne];omega
 have d1:decide ((n:Int)<0)=false:=decide_eq_false (by omega);have hw:IntKind.u64.wrap (n:Int)=(n:Int):=by rw[IntKind.wrap_u64];omega
 have hw2:IntKind.i64.wrap (n:Int)=(n:Int):=IntWalk.i64_in _ (by omega);have d2:decide ((9223372036854775807:Int)<(n:Int))=false:=decide_eq_false (by omega);have d3:decide (9223372036854775807<n)=false:=decide_eq_false (by omega);have d4:decide ((8192:Int)<(n:Int))=false:=decide_eq_false (by omega);obtain⟨cs,hrunM,hle,_⟩:=Lib.run_makeNoZero (P:=prog) w #[3] 60 5 underlying60 n (by omega);have hcall:(callFunc 83 #[.int .i64 (n:Int)]).run prog w=.ok (.value (.slice (some ⟨w.heap.size,0,none⟩) n cs.size)) ((w.alloc (.cells cs 5)).drewN 2):=by
  rw[run_callFunc_extern func83 (by kernel_rfl) (by kernel_rfl) (by kernel_rfl) (e:=Extern.BytealgMakeNoZero.makeNoZero #[3] #[60]) (by kernel_rfl),hrunM];rfl
 have B0:=Lib.Buf.start w cs 5 n 2 hle;have hux:((UInt8.ofNat x).toNat:Int)=(x:Int):=by rw[UInt8.toNat_ofNat_of_lt' hx]
 obtain⟨w1,hr1,B1⟩:=Lib.copy_part (P:=prog) w _ w.heap.size n [] [UInt8.ofNat x] (.slice (some ⟨g,off,none⟩) 1 c) 60 3 5 underlying60 (by kernel_rfl) (Nat.le_refl _) B0 ⟨some ⟨g,off,none⟩,c,rfl,(fun h=>by cases h),fun a ha i y hy=>by
  injection ha with ha
  subst ha;match i,hy with
  | 0,hy=>
   simp at hy;subst hy;rw[hux];simpa [Addr.add]using c0⟩ (by simpa using h0)
 rw[List.length_nil,Lib.tailV_zero]at hr1;rw[List.nil_append]at B1;have i0:(0:Int)<=(n:Int):=by omega
 have i1:(n:Int)<=(cs.size:Int):=by omega
 have HB1:=hid B1;clear hm hr hc hrunM B0 B1;go_enter func163,ntmps163
 go_wp2_with fail
 refine Hm.out.mono ?_;rintro e w' ⟨rfl,rfl⟩;go_wp2_with (at_builtin;refine Lib.wpList_copy_run _ rfl _ _ 60 60 rfl _ _ rfl rfl hr1 ?_)
 clear hcall hr1;have Hs:=hid (fun bp hbp W=>yj w'.heap.size n bp W hbp);go_wp2;go_loopw [10,11] (fun bp _ wr=>∃k:Nat,bp=.int .i64 (k:Int)/\1<=k/\k<=n/\Hid (Lib.Buf w' wr w'.heap.size n (List.replicate k (UInt8.ofNat x)))) (fun bp _ _=>n-(intOf bp).toNat)
 case atStart=>exact⟨1,rfl,by omega,h0,HB1⟩
 case round=>
  obtain⟨k,rfl,hk1,hkn,hbuf⟩:=hrel;clear HB1;by_cases hlt:k<n
  ·obtain⟨d,hd⟩:∃d,d=min k (n-k):=⟨_,rfl⟩;obtain⟨w3,hcp,B3⟩:=ND w' wr.drew w'.heap.size n k (List.replicate k (UInt8.ofNat x)) 3 (RV hbuf.out) (by rw[List.length_replicate];exact Nat.le_refl _) (by rw[List.length_replicate];exact hlt);rw[List.length_replicate,<-hd]at hcp B3;rw[abK,show k+min d k=k+d by omega]at B3;have HB3:=hid B3;have hs1:=fun W=>yj w'.heap.size n k W hlt
   have hs2:=fun W=>Wx w'.heap.size n k W hkn
   have hmin:min (k:Int) (n:Int)=(k:Int):=by omega
   have hd0:1<=d/\k+d<=n:=by omega
   clear hbuf B3 hd Hs;go_upto_region 20 with fail
   refine wp_region_held_drew (S:=(fun _:World=>True)) (by kernel_rfl) (by trivial) (fun hHeld=>?_);refine wpAnyH_take (i:=0) (oi:={dst:=some 67,op:=.move (.tmp 10),type:=3,pos:= "bytes.go:672",after:=#[],guard:=none}) (v:=?_) rfl (by kernel_rfl) (by kernel_rfl) (by kernel_rfl) (fun _ _ _ h=>h) (Or.inl ⟨by rfl,?_⟩) (by assumption) ?_;rotate_left
   ·(intro w hSw;(try dsimp only at hSw);go_simp;(try with_reducible rfl))
   try simp only[Act.put,List.setIfInBounds_toArray,List.set_cons_zero,List.set_cons_succ]
   refine wpAnyH_take (i:=1) (oi:={dst:=some 68,op:=.move (.tmp 9),type:=60,pos:= "bytes.go:672",after:=#[],guard:=none}) (v:=?_) rfl (by kernel_rfl) (by kernel_rfl) (by kernel_rfl) (fun _ _ _ h=>h) (Or.inl ⟨by rfl,?_⟩) (by assumption) ?_;rotate_left
   ·(intro w hSw;(try dsimp only at hSw);go_simp;(try with_reducible rfl))
   try simp only[Act.put,List.setIfInBounds_toArray,List.set_cons_zero,List.set_cons_succ]
   refine wpAnyH_take (i:=2) (oi:={dst:=some 69,op:=.move (.tmp 10),type:=3,pos:= "bytes.go:672",after:=#[],guard:=none}) (v:=?_) rfl (by kernel_rfl) (by kernel_rfl) (by kernel_rfl) (fun _ _ _ h=>h) (Or.inl ⟨by rfl,?_⟩) (by assumption) ?_;rotate_left
   ·(intro w hSw;(try dsimp only at hSw);go_simp;(try with_reducible rfl))
   try simp only[Act.put,List.setIfInBounds_toArray,List.set_cons_zero,List.set_cons_succ]
   refine wpAnyH_take (i:=3) (oi:={dst:=some 70,op:=.slice 60 (.tmp 68) (some (.tmp 69)) none none,type:=60,pos:= "bytes.go:672",after:=#[{on:=1,ground:=.data},{on:=2,ground:=.data}],guard:=none}) (v:=?_) rfl (by kernel_rfl) (by kernel_rfl) (by kernel_rfl) (fun _ _ _ h=>h) (Or.inl ⟨by rfl,?_⟩) (by assumption) ?_;rotate_left
   ·(intro w hSw;(try dsimp only at hSw);go_simp;(try with_reducible rfl))
   try simp only[Act.put,List.setIfInBounds_toArray,List.set_cons_zero,List.set_cons_succ]
   refine wpAnyH_take (i:=4) (oi:={dst:=some 71,op:=.move (.tmp 9),type:=60,pos:= "bytes.go:672",after:=#[],guard:=none}) (v:=?_) rfl (by kernel_rfl) (by kernel_rfl) (by kernel_rfl) (fun _ _ _ h=>h) (Or.inl ⟨by rfl,?_⟩) (by assumption) ?_;rotate_left
   ·(intro w hSw;(try dsimp only at hSw);go_simp;(try with_reducible rfl))
   try simp only[Act.put,List.setIfInBounds_toArray,List.set_cons_zero,List.set_cons_succ]
   refine wpAnyH_take (i:=5) (oi:={dst:=some 72,op:=.move (.tmp 11),type:=3,pos:= "bytes.go:672",after:=#[],guard:=none}) (v:=?_) rfl (by kernel_rfl) (by kernel_rfl) (by kernel_rfl) (fun _ _ _ h=>h) (Or.inl ⟨by rfl,?_⟩) (by assumption) ?_;rotate_left
   ·(intro w hSw;(try dsimp only at hSw);go_simp;(try with_reducible rfl))
   try simp only[Act.put,List.setIfInBounds_toArray,List.set_cons_zero,List.set_cons_succ]
   refine wpAnyH_take (i:=6) (oi:={dst:=some 73,op:=.slice 60 (.tmp 71) none (some (.tmp 72)) none,type:=60,pos:= "bytes.go:672",after:=#[{on:=4,ground:=.data},{on:=5,ground:=.data}],guard:=none}) (v:=?_) rfl (by kernel_rfl) (by kernel_rfl) (by kernel_rfl) (fun _ _ _ h=>h) (Or.inl ⟨by rfl,?_⟩) (by assumption) ?_;rotate_left
   ·(intro w hSw;(try dsimp only at hSw);go_simp;(try with_reducible rfl))
   try simp only[Act.put,List.setIfInBounds_toArray,List.set_cons_zero,List.set_cons_succ]
   refine wpAnyH_ready (rs:=[7]) (by kernel_rfl) (by simp) ?_;refine AllReadyH.cons (o:={dst:=some 74,op:=.call {callee:=.builtin .copy,args:=#[.tmp 70,.tmp 73],argTypes:=#[60,60]},type:=3,pos:= "bytes.go:672",after:=#[{on:=3,ground:=.data},{on:=6,ground:=.data}],guard:=none}) rfl (fun K hK=>?_) AllReadyH.nil
   (refine Lib.wp_copy_run _ (.tmp 70) (.tmp 73) 60 60 rfl _ _ rfl rfl hcp ?_)
   refine hK.out _ _ (by trivial) (fun hHeld=>?_);clear hK K
   try simp only[Act.put,List.setIfInBounds_toArray,List.set_cons_zero,List.set_cons_succ]
   refine wpAnyH_take (i:=8) (oi:={dst:=some 75,op:=.binOp .add 3 (.tmp 67) (.tmp 74) 3,type:=3,pos:= "bytes.go:672",after:=#[{on:=0,ground:=.data},{on:=7,ground:=.data}],guard:=none}) (v:=?_) rfl (by kernel_rfl) (by kernel_rfl) (by kernel_rfl) (fun _ _ _ h=>h) (Or.inl ⟨by rfl,?_⟩) (by assumption) ?_;rotate_left
   ·(intro w hSw;(try dsimp only at hSw);go_simp;(try with_reducible rfl))
   try simp only[Act.put,List.setIfInBounds_toArray,List.set_cons_zero,List.set_cons_succ]
   refine wpAnyH_take (i:=9) (oi:={dst:=some 10,op:=.assign (.tmp 75),type:=3,pos:= "bytes.go:672",after:=#[{on:=8,ground:=.data},{on:=7,ground:=.chain},{on:=0,ground:=.phase},{on:=1,ground:=.phase},{on:=2,ground:=.phase},{on:=3,ground:=.phase},{on:=4,ground:=.phase},{on:=5,ground:=.phase},{on:=6,ground:=.phase},{on:=7,ground:=.phase},{on:=8,ground:=.phase}],guard:=none}) (v:=?_) rfl (by kernel_rfl) (by kernel_rfl) (by kernel_rfl) (fun _ _ _ h=>h) (Or.inl ⟨by rfl,?_⟩) (by assumption) ?_;rotate_left
   ·(intro w hSw;(try dsimp only at hSw);go_simp;(try with_reducible rfl))
   try simp only[Act.put,List.setIfInBounds_toArray,List.set_cons_zero,List.set_cons_succ]
   refine wpAnyH_done (by kernel_rfl) ?_ _;have hkd:IntKind.i64.wrap ((k:Int)+(d:Int))=((k+d:Nat):Int):=by rw[IntWalk.i64_in _ (by omega)];omega
   rw[hkd];generalize hq:k+d=q at *;clear hcp hs1 hs2 hkd;go_wp2;go_roundw
   case rel=>exact⟨q,rfl,by omega,by omega,HB3⟩
   case measure=>simp[intOf];omega
  ·obtain rfl:k=n:=by omega
   have dR:Hid (Reads wr (some ⟨w'.heap.size,0,none⟩) (u8s (List.replicate k x))/\Below w'.heap.size w' wr):=hid ⟨fun _=>⟨_,0,rfl,fun j hj=>by
    rw[aO,List.length_replicate]at hj;rw[Nat.zero_add,hbuf.out.holds j (UInt8.ofNat x) (by rw[List.getElem?_replicate];rw[if_pos hj]),hux,bD _ j (by rw[List.length_replicate];exact hj),List.getElem_replicate]⟩,hbuf.out.below⟩
   clear hbuf;go_wp2;go_ret;exact⟨⟨_,_,rfl,dR.out.1⟩,dR.out.2⟩
end Go.Proofs.YtaebnkeddcbmkaaGreat
