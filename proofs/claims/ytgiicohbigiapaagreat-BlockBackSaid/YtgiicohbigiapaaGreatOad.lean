/- Contracts. -/
import Derived.Test.YtgiicohbigiapaaGreatOab
import Derived.Lib.Hide
import Derived.BigQuiet
import Derived.StillTailTactics
import Derived.Laws.AppendOwnNone
import Derived.Deep.DeepCutAuto
import Derived.Test.YtgiicohbigiapaaGreatOz1
import Derived.Test.YtgiicohbigiapaaGreatOz0
set_option maxHeartbeats 4000000
set_option maxRecDepth 100000
open Go.Proofs.Tryz Go.Proofs.YtgiicohbigiapaaGreat.am List Nat Option
namespace Go.Proofs.YtgiicohbigiapaaGreat
open Go.RowKit
theorem Bf(n:Nat)(h:n<2^64):IntKind.u64.wrap (n:Int)=n:=by
 have:IntKind.u64.wrap (n:Int)=n%18446744073709551616:=by simp[IntKind.wrap,IntKind.bits,IntKind.signed]
 rw[this];omega
theorem or_val(rest x a:Nat)(aj:rest<2^64):bits .or .u64 (rest:Int) (IntKind.u64.wrap ((x:Int)*2^a))=((rest ||| x*2^a%2^64:Nat):Int):=by
 have e:(x:Int)*2^a=((x*2^a:Nat):Int):=by simp
 have e2:IntKind.u64.wrap ((x*2^a:Nat):Int)=((x*2^a%2^64:Nat):Int):=by
  have:IntKind.u64.wrap ((x*2^a:Nat):Int)=((x*2^a:Nat):Int)%18446744073709551616:=by simp[IntKind.wrap,IntKind.bits,IntKind.signed]
  rw[this];omega
 rw[e,e2,u64_or_nat _ _ aj (by exact mod_lt _ (by decide))]
theorem Xq(v m:Nat):(v:Int)%2^m=((v%2^m:Nat):Int):=by simp
theorem m9{w:ah}{A:a7}{l:ae}(h:Reads w A (aO l))(aZ:l≠[]):∃g off,A=some ⟨g,off,none⟩/\∀j (ar:j<l.length),w.cell? ⟨g,off+j,none⟩=some (.int .u8 (l[j]:Int)):=by
 obtain⟨g,off,e,hc⟩:=h (by simpa [aO]using aZ);exact⟨g,off,e,λj ar=>by rw[hc j (by simpa [aO]using ar),jq l j ar]⟩
theorem Hj{w:ah}{base:Nat}{e:TypeId}{v:Value}{n:Nat}{xs:b1}(h:w.ownsRow base e 1 v n xs)(aA:0<n):∃g cap,v=.slice (some ⟨g,0,none⟩) n cap/\base<=g/\g<w.heap.size:=by
 rcases h.2 with⟨_,ao⟩|⟨g,cap,eW,aD,ak,hh,_⟩
 .omega
 .refine⟨g,cap,aD,ak,?_⟩;rcases eF g w.heap.size with h1|h1
  .exact h1
  .rw[Array.getElem?_eq_none h1]at hh;cases hh
theorem own_below{w w':ah}{base:Nat}{e:TypeId}{v:Value}{n:Nat}{xs:b1}(h:w.ownsRow base e 1 v n xs)(ak:av w w'):w'.ownsRow base e 1 v n xs:=
 h.kept (row:=none) (dj ak none) (by cases v.ownBlock<;>simp)
theorem zO(g j:Nat):((⟨g,0,none⟩:Addr).add j)=⟨g,j,none⟩:=by
 unfold Addr.add;split<;>simp_all
theorem kJ{w:ah}{base:Nat}{e:TypeId}{v:Value}{n:Nat}{xs:b1}(h:w.ownsRow base e 1 v n xs):∃A c,v=.slice A n c/\Reads w A xs/\(∀a,A=some a->base<=a.block/\a.block<w.heap.size/\∃ag qI,w.heap[a.block]?=some (.cells ag e qI)):=by
 rcases eq_zero_or_pos n with ao|ao
 .subst ao;have hl:xs=[]:=lf (by simpa using h.1);subst hl;rcases h.2 with⟨aD,_⟩|⟨g,cap,eW,aD,ak,hh,_⟩
  .exact⟨none,0,aD,λh=>absurd rfl h,λa e=>by cases e⟩
  .refine⟨some ⟨g,0,none⟩,cap,aD,λh=>absurd rfl h,λa e=>?_⟩;injection e with e
   subst e;refine⟨ak,?_,_,_,hh⟩;rcases eF g w.heap.size with h1|h1
   .exact h1
   .rw[Array.getElem?_eq_none h1]at hh;cases hh
 .rcases h.2 with⟨_,h1⟩|⟨g,cap,eW,aD,ak,hh,aq⟩
  .omega
  .refine⟨some ⟨g,0,none⟩,cap,aD,λ_=>⟨g,0,rfl,λj ar=>?_⟩,λa e=>?_⟩
   .have hc:=h.cells (g:=g) (by rw[aD];rfl) j (xs[j]) (bI ar);rw[zO]at hc;rw[ez,hc,bI ar]
   .injection e with e
    subst e;refine⟨ak,?_,_,_,hh⟩;rcases eF g w.heap.size with h1|h1
    .exact h1
    .rw[Array.getElem?_eq_none h1]at hh;cases hh
theorem Rr(v k:Nat):(v:Int)/2^(8*k)%256=((v/256^k%256:Nat):Int):=by rw[h0];simp
theorem kZ{w w':ah}(h:w.grownBy w' none):av w w':=⟨h.os,h.tape,h.output,h.size,λk hk=>h.block k hk (by simp)⟩
theorem og{w:ah}{g:Nat}{t:TypeId}{ag:b1}(h:Row w g t ag):Reads w (some ⟨g,0,none⟩) ag:=λ_=>⟨g,0,rfl,λj _=>by rw[ez];exact h.cell j⟩
theorem XT{w:ah}{base g n cap:Nat}{e:TypeId}{xs:b1}(h:w.ownsRow base e 1 (.slice (some ⟨g,0,none⟩) n cap) n xs):n<=cap/\cap<=maxLen:=by
 rcases h.2 with⟨aD,_⟩|⟨eT,cap',eW,aD,ak,hh,h1,af,_⟩
 .cases aD
 .injection aD with _ _ e3
  subst e3;exact⟨h1,af⟩
theorem anK{w:ah}{base base' n:Nat}{v:Value}{e:TypeId}{xs:b1}(h:w.ownsRow base e 1 v n xs)(ak:base'<=base):w.ownsRow base' e 1 v n xs:=
 ⟨h.1,h.2.imp id (λ⟨g,cap,eW,a,b,c⟩=>⟨g,cap,eW,a,dl ak b,c⟩)⟩
theorem apF{w:ah}{g:Nat}{xs:b1}(h:Reads w (some ⟨g,0,none⟩) xs)(aF:g<w.heap.size)(o:Obj):Reads (w.alloc o) (some ⟨g,0,none⟩) xs:=λaZ=>by
 obtain⟨eT,off,e,hc⟩:=h aZ;injection e with e
 injection e with aG e2
 subst aG e2;exact⟨_,_,rfl,λj ar=>by rw[World.cell?_alloc_lt _ _ _ (by exact aF)];exact hc j ar⟩
theorem apK{w:ah}{g off:Nat}{xs:b1}(h:Reads w (some ⟨g,off,none⟩) xs):∀j u,xs[j]?=some u->w.cell? ((⟨g,off,none⟩:Addr).add j)=some u:=by
 intro j u ar;have fk:j<xs.length:=by
  rcases eF j xs.length with h1|h1
  .exact h1
  .rw[getElem?_eq_none h1]at ar;cases ar
 obtain⟨eT,off',e,hc⟩:=h (by intro e;rw[e]at fk;simp at fk);injection e with e
 injection e with aG e2
 subst aG e2;have e:((⟨g,off,none⟩:Addr).add j)=⟨g,off+j,none⟩:=by unfold Addr.add;split<;>simp_all
 rw[e,hc j fk,ar]
theorem afs:Lib.bitLen 0=0:=by decide
theorem Rb:∀x:Nat,x<2^64->Lib.bitLen x=am.wid x:=by
 intro x;induction x using Nat.strongRecOn with
|ind x ih=>
  intro ai;rcases eq_zero_or_pos x with h|h
  .subst h;rfl
  .rw[Lib.bitLen_half x (by omega) ai,ih (x/2) (by omega) (by omega)];rcases eq_zero_or_pos (x/2)with h1|h1
   .rw[h1,show x=1 by omega,Bi 1 0 (by simp) (by simp)];rfl
   .have af:=att (x/2) h1 (x%2) (by omega);rw[show 2*(x/2)+x%2=x by omega]at af;omega
theorem aqq(x:Nat)(w:ah)(ai:x<4294967296) :
  Calls prog 189 #[.int .u32 x] w λe w'=>e=.returned (.int .i64 (Lib.bitLen x))/\w=w':=by
 have ak:=Lib.bitLen_le x 32 (by omega) (by omega);go_enter func189,ntmps189
 go_wp2;go_loop [0,3] (λv n=>∃y k:Nat,y<=x/\v=.int .u32 y/\n=.int .i64 k/\Hid (k+Lib.bitLen y=Lib.bitLen x)) (λv _=>(intOf v).toNat)
 case atStart=>exact⟨x,0,Nat.le_refl _,rfl,rfl,by unfold Hid;omega⟩
 case round=>
  obtain⟨y,k,hy,rfl,rfl,hk⟩:=hrel;have av5:k<=32:=by have:=hk.out;omega
  by_cases ao:0<y
  .have hh:Lib.bitLen y=1+Lib.bitLen (y/2):=Lib.bitLen_half y (by omega) (by omega);have hg:=I hh;clear hh;go_wp2;go_round
   case rel=>exact⟨y/2,k+1,by omega,by go_num,by go_num,by have h1:=hk.out;have af:=hg.out;unfold Hid;omega⟩
   case measure=>simp[intOf];omega
  .obtain rfl:y=0:=by omega
   go_wp2;go_ret;exact⟨congrArg Ending.returned (congrArg (Value.int .i64) (by have h1:=hk.out;rw[afs]at h1;omega)),rfl⟩
theorem YH(x:Nat)(w:ah)(ai:x<4294967296) :
  Calls prog 189 #[.int .u32 x] w λe w'=>e=.returned (.int .i64 (am.wid x))/\w=w':=by
 have h:=aqq x w ai;rw[Rb x (by omega)]at h;exact h
theorem alg:(prog.info? 3).map (λi=>(i.zero,i.size,i.bytes))=some (some (.int .i64 0),1,8):=by kernel_rfl
theorem ap4(A:a7)(c:Nat)(w:ah) :
  Calls prog 83 #[.slice A 0 c] w λe w'=>e=.returned (.int .u32 0)/\w=w':=by
 go_enter func83,ntmps83
 go_wp2;go_loop [3,4] (λv i=>v=.int .u32 0/\i=.int .i64 (-1)) (λ_ _=>0)
 case atStart=>exact⟨rfl,rfl⟩
 case round=>
  obtain⟨rfl,rfl⟩:=hrel;go_wp2;go_ret;exact⟨rfl,rfl⟩
theorem Yz(g off n c N:Nat)(w:ah)(aA:n<=32)(g6:0<n)(hc:∀j,j<n->w.cell? ⟨g,off+j,none⟩=some (.int .i64 ((N/2^j%2:Nat):Int))) :
  Calls prog 83 #[.slice (some ⟨g,off,none⟩) n c] w λe w'=>e=.returned (.int .u32 ((N%2^n:Nat):Int))/\w=w':=by
 have ai:N%2^n<4294967296:=gJ (mod_lt _ (eK n)) (dy (n:=2) (by omega) aA);go_enter func83,ntmps83
 go_wp2;go_loop [3,4] (λv i=>∃k y:Nat,k<=n/\v=.int .u32 y/\i=.int .i64 ((k:Int)-1)/\Hid (y=N%2^n/2^k)) (λ_ i=>(intOf i+1).toNat)
 case atStart=>exact⟨n,0,Nat.le_refl _,rfl,rfl,by unfold Hid;rw[div_eq_of_lt (mod_lt _ (eK n))]⟩
 case round=>
  obtain⟨k,y,hk,rfl,rfl,hy⟩:=hrel;by_cases ao:k=0
  .subst ao;have aL:Ending.returned (Value.int .u32 y)=Ending.returned (Value.int .u32 ((N%2^n:Nat):Int)):=by
    have h1:=hy.out;rw[Nat.pow_zero,Nat.div_one]at h1;rw[h1]
   have br:=I aL;clear hc aL hy;go_wp2;go_ret;exact⟨br,rfl⟩
  .obtain⟨j,rfl⟩:∃j,k=j+1:=⟨k-1,by omega⟩;rw[show(((j+1:Nat):Int)-1)=(j:Int) by omega];have hcell:=hc j (by omega);have aE:N/2^j%2<=1:=by omega
   have ap:y*2+N/2^j%2=N%2^n/2^j:=by
    have h1:=hy.out;rw[<-G6 N n j (by omega),h1,ea,<-jX];omega
   have hle:y*2+N/2^j%2<=4294967295:=by
    have:=div_le_self (N%2^n) (2^j);omega
   have ca:=I ap;clear ap hc hy;generalize N/2^j%2=t at hcell aE ca hle;go_wp2;go_round
   case rel=>exact⟨j,y*2+t,by omega,by go_num,by go_num,ca⟩
   case measure=>simp[intOf]
theorem ob:(prog.info? 5).map (λi=>(i.zero,i.size,i.bytes))=some (some (.int .u8 0),1,1):=by kernel_rfl
theorem Ef{w:ah}{base g n:Nat}(h:w.ownsRow base 5 1 (.slice (some ⟨g,0,none⟩) n n) n (madeCells #[Value.int .u8 0] n).toList):Row w g 5 (aO (List.replicate n 0)):=by
 rcases h.2 with⟨aD,_⟩|⟨eT,cap,eW,aD,ak,hh,h1,af,aq,aK⟩
 .cases aD
 .injection aD with aG e2 e3
  injection aG with aG
  injection aG with aG
  subst aG e3;have e:eW.toList=aO (List.replicate n 0):=by
   rw[take_of_length_le (by rw[Array.length_toList];omega)]at aK;rw[aK,toList_madeCells_one];simp only[aO,map_replicate];rfl
  unfold Row;rw[<-e,Array.toArray_toList];exact hh
theorem oL(w:ah)(A:a7)(c:Nat)(bs:ae)(cs:∀b∈bs,b<256)(aj:Reads w A (aO bs)) :
  (convert 87 9 (.slice A bs.length c)).run prog w=.ok (.string (strOf bs)) w:=by
 have key:∀a:Addr,(∀j (ar:j<bs.length),w.cell? (a.add j)=some (.int .u8 (bs[j]:Int)))->(convert 87 9 (.slice (some a) bs.length c)).run prog w=.ok (.string (strOf bs)) w:=by
  intro a aV;have h:=run_convert_bytes_back (P:=prog) w 87 9 5 a c (bs.map UInt8.ofNat) underlying87 underlying5 underlying9 (λj ar=>by
   have Ar:j<bs.length:=by simpa using ar
   have au:=cs bs[j] (b8 Ar);rw[aV j Ar,getElem_map,UInt8.toNat_ofNat_of_lt' au])
  rw[cQ]at h;exact h
 rcases bs with _|⟨b,bs⟩
 .rcases A with _|a
  .exact run_convert_bytes_nil w 87 5 underlying87 underlying5 0 c 9 underlying9
  .exact key a (λj ar=>absurd ar (by simp))
 .obtain⟨g,off,rfl,hc⟩:=m9 aj (by simp);refine key _ (λj ar=>?_);have e:((⟨g,off,none⟩:Addr).add j)=⟨g,off+j,none⟩:=by unfold Addr.add;split<;>simp_all
  rw[e];exact hc j ar
theorem pE(bs:ae)(i:Nat)(W:ah)(ay:i<bs.length)(au:bs[i]<256):(Instr.index 9 (.string (strOf bs)) (.int .i64 i)).run prog W=.ok (.int .u8 ((bs[i]:Nat):Int)) W:=by
 have ap:=cy bs;rw[run_index_string W 9 (strOf bs) .i64 (i:Int) underlying9,dif_pos ⟨by omega,by omega⟩];have e:(strOf bs)[i]'(by omega)=UInt8.ofNat bs[i]:=by
  rw[ByteArray.getElem_eq_getElem_data];simp[strOf]
 simp only[cX,e];rw[UInt8.toNat_ofNat_of_lt' au]
theorem NU{w:ah}{base g:Nat}{l:ae}(h:Row w g 5 (aO l))(ak:base<=g)(hm:l.length<=1000000000):w.ownsRow base 5 1 (.slice (some ⟨g,0,none⟩) l.length l.length) l.length (aO l):=
 ⟨by rw[i7,Nat.mul_one],.inr ⟨g,l.length,(aO l).toArray,rfl,ak,h,Nat.le_refl _,by unfold maxLen;omega,by simp[i7],by rw[take_of_length_le (by simp[i7])]⟩⟩
namespace am
def sv(h b:Nat):Nat:=(h ^^^ b)*11400714819323198485%18446744073709551616
def tN(h b:Nat):Nat:=sv h b ^^^ sv h b/536870912
def sw(h n:Nat):Nat:=(h+n)%18446744073709551616*13787848793156543929%18446744073709551616
def y3(h n:Nat):Nat:=sw h n ^^^ sw h n/4294967296
def lE:Nat:=7640891576956012808
def km(h:Nat)(l:ae):Nat:=l.foldl tN h
theorem aaf{a b:Nat}(aV:a<18446744073709551616)(ak:b<18446744073709551616):a ^^^ b<18446744073709551616:=xor_lt_two_pow (n:=64) (by omega) (by omega)
theorem DX(h b:Nat):sv h b<18446744073709551616:=mod_lt _ (by decide)
theorem ars(h b:Nat):tN h b<18446744073709551616:=aaf (DX h b) (Nat.lt_of_le_of_lt (div_le_self _ _) (DX h b))
theorem DY(h n:Nat):sw h n<18446744073709551616:=mod_lt _ (by decide)
theorem arP(h n:Nat):y3 h n<18446744073709551616:=aaf (DY h n) (Nat.lt_of_le_of_lt (div_le_self _ _) (DY h n))
theorem aav:lE<18446744073709551616:=by decide
theorem SC(h:Nat)(l:ae)(hh:h<18446744073709551616):km h l<18446744073709551616:=by
 induction l generalizing h with
|nil=>exact hh
|cons b l ih=>exact ih _ (ars h b)
theorem ah6(h:Nat)(l:ae)(b:Nat):km h (l++[b])=tN (km h l) b:=by
 unfold km;rw[foldl_append,foldl_cons,foldl_nil]
theorem KQ(h:Nat)(l:ae)(k:Nat)(hk:k<l.length):km h (l.take (k+1))=tN (km h (l.take k)) l[k]:=by
 rw[fY hk,ah6]
def sumOf(l:ae):Nat:=y3 (km lE l) l.length
theorem OV(l:ae):sumOf l<18446744073709551616:=arP _ _
end am
theorem atJ(a b:Nat)(aV:a<18446744073709551616)(ak:b<18446744073709551616):bits .xor .u64 (a:Int) (b:Int)=((a ^^^ b:Nat):Int):=u64_xor_nat a b aV ak
theorem Zg(h b:Nat)(hh:h<18446744073709551616)(ak:b<256):IntKind.u64.wrap (bits .xor .u64 (h:Int) (b:Int)*11400714819323198485)=(sv h b:Int):=by
 rw[u64_xor_nat h b hh (by omega),IntKind.wrap_u64];unfold sv;omega
theorem Zh(h b:Nat):bits .xor .u64 (sv h b:Int) ((sv h b:Int)/536870912)=(tN h b:Int):=xorShift_u64 (sv h b) 536870912 (DX h b)
theorem Zw(h n:Nat):IntKind.u64.wrap (IntKind.u64.wrap ((h:Int)+n)*13787848793156543929)=(sw h n:Int):=by
 rw[IntKind.wrap_u64,IntKind.wrap_u64];unfold sw;omega
theorem Zx(h n:Nat):bits .xor .u64 (sw h n:Int) ((sw h n:Int)/4294967296)=(y3 h n:Int):=xorShift_u64 (sw h n) 4294967296 (DY h n)
theorem arC(a b:ae):strOf a++strOf b=strOf (a++b):=by
 simp[strOf,ByteArray.mk_append_mk]
theorem Em(l:ae)(i j:Nat):(strOf l).extract i j=strOf ((l.take j).drop i):=by
 apply ByteArray.ext
 simp only[strOf,ByteArray.data_extract,extract_toArray,extract_eq_take_drop,map_drop,map_take];rw[drop_take]
theorem arF(l:ae)(j:Nat):(strOf l).extract 0 j=strOf (l.take j):=by rw[Em,drop_zero]
theorem arD(l:ae)(i:Nat):(strOf l).extract i l.length=strOf (l.drop i):=by rw[Em,take_length]
theorem HI(a:ae):(strOf a).toList=a.map UInt8.ofNat:=by simp[strOf]
theorem Xf:∀(a b:ae),(∀x∈a,x<256)->(∀x∈b,x<256)->a.map UInt8.ofNat=b.map UInt8.ofNat->a=b
|[],[],_,_,_=>rfl
|[],_::_,_,_,h=>by simp at h
|_::_,[],_,_,h=>by simp at h
|x::a,y::b,aV,ak,h=>by
  simp only[map_cons,List.cons.injEq]at h;have ai:=aV x dU;have hy:=ak y dU;have e:=congrArg UInt8.toNat h.1;rw[UInt8.toNat_ofNat_of_lt' ai,UInt8.toNat_ofNat_of_lt' hy]at e;rw[e,Xf a b (λz aQ=>aV z (eo _ aQ)) (λz aQ=>ak z (eo _ aQ)) h.2]
theorem El(a b:ae)(aV:∀x∈a,x<256)(ak:∀x∈b,x<256):((strOf a).toList==(strOf b).toList)=decide (a=b):=by
 rw[HI,HI];by_cases h:a=b
 .subst h;simp
 .rw[bG h];simp only[beq_eq_false_iff_ne,ne_eq];exact λe=>h (Xf a b aV ak e)
def Ft(s:ByteArray):ae:=s.data.toList.map UInt8.toNat
theorem arE(s:ByteArray):strOf (Ft s)=s:=by
 apply ByteArray.ext
 have e:(UInt8.ofNat ∘ UInt8.toNat)=id:=funext λu=>UInt8.ofNat_toNat
 simp[strOf,Ft,e]
theorem in_lt(s:ByteArray):∀x∈Ft s,x<256:=by
 intro x ai;obtain⟨u,_,rfl⟩:=List.mem_map.1 ai;exact u.toNat_lt
theorem of_string(s:ByteArray):∃l,s=strOf l/\∀x∈l,x<256:=⟨Ft s,(arE s).symm,in_lt s⟩
theorem pN{l:ae}(h:∀x∈l,x<256)(k:Nat):∀x∈l.take k,x<256:=λx ai=>h x (mem_of_mem_take ai)
theorem jh{l:ae}(h:∀x∈l,x<256)(k:Nat):∀x∈l.drop k,x<256:=λx ai=>h x (mem_of_mem_drop ai)
theorem Cp{a b:ae}(aV:∀x∈a,x<256)(ak:∀x∈b,x<256):∀x∈a++b,x<256:=λx ai=>(List.mem_append.1 ai).elim (aV x) (ak x)
theorem ra(a b:ae)(h:a.length+b.length<=1000000000)(W:ah):(Op.stringOp .add (strOf a) (strOf b)).run prog W=.ok (.string (strOf (a++b))) W:=by
 rw[run_string_add_sum W _ _ (by rw[cy,cy];omega),arC]
theorem rb(l:ae)(j:Nat)(h:j<=l.length)(W:ah):(Instr.slice 9 (.string (strOf l)) none (some (.int .i64 j)) none).run prog W=.ok (.string (strOf (l.take j))) W:=by
 rw[run_slice_string_to_if W 9 _ .i64 j underlying9,aB ⟨by omega,by rw[cy];omega⟩,cX,arF]
theorem o2(l:ae)(i:Nat)(h:i<=l.length)(W:ah):(Instr.slice 9 (.string (strOf l)) (some (.int .i64 i)) none none).run prog W=.ok (.string (strOf (l.drop i))) W:=by
 rw[run_slice_string_from_if W 9 _ .i64 i underlying9,aB ⟨by omega,by rw[cy];omega⟩,cX,cy,arD]
theorem agX(W:ah)(g b:Nat)(ak:b<256)(h:W.cell? ⟨g,0,none⟩=some (.int .u8 b))(c:Nat) :
  (convert 87 9 (.slice (some ⟨g,0,none⟩) 1 c)).run prog W=.ok (.string (strOf [b])) W:=by
 have h1:=oL W (some ⟨g,0,none⟩) c [b] (by intro x ai;simp at ai;omega) (λ_=>⟨g,0,rfl,λj ar=>by
  have:j=0:=by simp[aO]at ar;omega
  subst this;rw[h];simp[aO]⟩)
 exact h1
def fO(n:Int):Nat:=(min (max n 0) 8).toNat
theorem KS(n:Int):fO n<=8:=by unfold fO;omega
abbrev Left:=Option (ae)
def eH(n:Nat):Left->ae×Left
|some bs=>if n<=bs.length then(bs.take n,some (bs.drop n))else([],none)
|none=>([],none)
def ln:Left->Nat×Left
|some bs=>if 0<(aX bs).2 then((aX bs).1,some (bs.drop (aX bs).2))else(0,none)
|none=>(0,none)
def lx(most:Int)(st:Left):Nat×Left:=
 if (ln st).2=none\/most<0\/most<((ln st).1:Int)then(0,none)else ln st
def sG(most:Int)(st:Left):ae×Left:=eH (lx most st).1 (lx most st).2
def ph:Left->Prop
|some bs=>(∀x∈bs,x<256)/\bs.length<=100000000
|none=>True
theorem XQ{n:Nat}{st:Left}(h:ph st):ph (eH n st).2/\(∀x∈(eH n st).1,x<256)/\(eH n st).1.length<=n:=by
 rcases st with _|bs
 .exact⟨trivial,by simp[eH],by simp[eH]⟩
 .simp only[eH];split
  .exact⟨⟨jh h.1 _,by have:=h.2;simp;omega⟩,pN h.1 _,by simp;omega⟩
  .exact⟨trivial,by simp,by simp⟩
theorem XP{st:Left}(h:ph st):ph (ln st).2/\(ln st).1<2^64:=by
 rcases st with _|bs
 .exact⟨trivial,by simp[ln]⟩
 .simp only[ln];split
  .rename_i ax
   exact⟨⟨jh h.1 _,by have:=h.2;simp;omega⟩,(rP bs _ _ ax rfl).1⟩
  .exact⟨trivial,by omega⟩
theorem ok_int{most:Int}{st:Left}(h:ph st)(hm:most<=9223372036854775807):ph (lx most st).2/\((lx most st).1:Int)<=9223372036854775807:=by
 unfold lx;split
 .exact⟨trivial,by simp⟩
 .rename_i aA
  exact⟨(XP h).1,by omega⟩
def PC(w:ah):a7->List (ae)->Prop
|p,[]=>p=none
|p,t::ky=>∃g q,p=some ⟨g,0,none⟩/\Row w g 103 [.pointer q,.string (strOf t)]/\t≠[]/\PC w q ky
theorem PC.keep{w w':ah}(hk:∀g ag,Row w g 103 ag->Row w' g 103 ag):∀(ky:List (ae)) (p:a7),PC w p ky->PC w' p ky
|[],_,h=>h
|_::ky,_,⟨g,q,ax,aj,aA,hc⟩=>⟨g,q,ax,hk _ _ aj,aA,PC.keep hk ky q hc⟩
theorem Yb{w w':ah}{row:Option Nat}(aF:w.grownBy w' row)(aj:∀g,row=some g->kW w g 103):∀g ag,Row w g 103 ag->Row w' g 103 ag:=
 λg _ h=>h.keep (aF.block g h.lt (λe=>(aj g e.symm).ne h rfl))
def fH(w:ah)(b:Nat)(bs:ae):Prop:=∃(p:a7) (ky:List (ae)),
 Row w b 62 [.pointer p,.int .i64 (bs.length:Int)]/\PC w p ky/\bs=ky.reverse.flatten
theorem fH.keep{w w':ah}{b:Nat}{bs:ae}{row:Option Nat}(h:fH w b bs)(aF:w.grownBy w' row)(ak:row≠some b)(aj:∀g,row=some g->kW w g 103):fH w' b bs:=by
 obtain⟨p,ky,ao,hc,e⟩:=h;exact⟨p,ky,ao.keep (aF.block b ao.lt (λe=>ak e.symm)),hc.keep (Yb aF aj),e⟩
theorem fH.below{w w':ah}{b:Nat}{bs:ae}(h:fH w b bs)(aF:av w w'):fH w' b bs:=h.keep (row:=none) (dj aF none) (by simp) (by simp)
theorem fH.new(w:ah):fH (w.alloc (.cells #[.pointer none,.int .i64 0] 62)) w.heap.size []:=⟨none,[],Row.new w _ [.pointer none,.int .i64 0],rfl,rfl⟩
def qp:Left->b1
|some bs=>[.string (strOf bs),.bool false]
|none=>[.string (strOf []),.bool true]
def bK(w:ah)(b:Nat)(st:Left):Prop:=Row w b 73 (qp st)
theorem bK.keep{w w':ah}{b:Nat}{st:Left}{row:Option Nat}(h:bK w b st)(aF:w.grownBy w' row)(ak:row≠some b):bK w' b st:=Row.keep h (aF.block b (Row.lt h) (λe=>ak e.symm))
theorem bK.below{w w':ah}{b:Nat}{st:Left}(h:bK w b st)(aF:av w w'):bK w' b st:=h.keep (row:=none) (dj aF none) (by simp)
theorem bK.lt{w:ah}{b:Nat}{st:Left}(h:bK w b st):b<w.heap.size:=Row.lt h
theorem RG(n:Int)(w:ah)(ao:-9223372036854775808<=n)(h1:n<=9223372036854775807) :
  Calls prog 56 #[.int .i64 n] w λe w'=>e=.returned (.int .i64 (fO n))/\w=w':=by
 have aL:min (max n 0) 8=(fO n:Int):=by unfold fO;omega
 have br:=I aL;clear aL;go_enter func56,ntmps56
 go_wp2;go_ret;exact⟨congrArg Ending.returned (congrArg (Value.int .i64) br),rfl⟩
def p8(c i:Nat):Bool:=decide ((i=9/\c=1)\/(i≠9/\(c≠0\/i=0)))
theorem agv(c i:Nat)(w:ah)(hc:c<256)(ay:i<=9) :
  Calls prog 109 #[.int .u8 c,.int .i64 i] w λe w'=>e=.returned (.bool (p8 c i))/\w=w':=by
 by_cases dh:i=9
 .subst dh;by_cases h1:c=1
  .subst h1;have he:p8 1 9=true:=by decide
   rw[he];go_enter func109,ntmps109
   go_wp2;go_ret;exact⟨rfl,rfl⟩
  .have he:p8 c 9=false:=by unfold p8;simp;omega
   have ak:((c:Int)==1)=false:=by simp;omega
   rw[he];clear h1 he;go_enter func109,ntmps109
   go_wp2;go_ret;exact⟨rfl,rfl⟩
 .have K0:((i:Int)==9)=false:=by simp;omega
  by_cases ao:c=0
  .subst ao;by_cases aQ:i=0
   .subst aQ;have he:p8 0 0=true:=by decide
    rw[he];clear K0;go_enter func109,ntmps109
    go_wp2;go_ret;exact⟨rfl,rfl⟩
   .have he:p8 0 i=false:=by unfold p8;simp;omega
    have ak:((i:Int)==0)=false:=by simp;omega
    rw[he];clear he aQ dh;go_enter func109,ntmps109
    go_wp2;go_ret;exact⟨rfl,rfl⟩
  .have he:p8 c i=true:=by unfold p8;simp;omega
   have ak:((c:Int) != 0)=true:=by simp;omega
   rw[he];clear he ao dh;go_enter func109,ntmps109
   go_wp2;go_ret;exact⟨rfl,rfl⟩
theorem bK.cells{w:ah}{b:Nat}{st:Left}(h:bK w b st):w.cell? ⟨b,0,none⟩=some (.string (strOf (st.getD [])))/\w.cell? ⟨b,1,none⟩=some (.bool st.isNone)/\w.frozen? ⟨b,0,none⟩=false/\w.frozen? ⟨b,1,none⟩=false:=by
 refine⟨(Row.cell h 0).trans ?_,(Row.cell h 1).trans ?_,Row.free h 0,Row.free h 1⟩
 all_goals rcases st with _|bs<;>rfl
theorem bK.left{w:ah}{b:Nat}{st:Left}(h:bK w b st)(l:ae):Row (w.setCell ⟨b,0,none⟩ (.string (strOf l))) b 73 [.string (strOf l),.bool st.isNone]:=by
 have h1:=Row.bq h 0 (.string (strOf l));have e:(qp st).set 0 (.string (strOf l))=[.string (strOf l),.bool st.isNone]:=by rcases st with _|bs<;>rfl
 rw[e]at h1;exact h1
theorem Row.bad{w:ah}{b:Nat}{x:Value}(h:Row w b 73 [.string (strOf []),x]):bK (w.setCell ⟨b,1,none⟩ (.bool true)) b none:=h.bq 1 (.bool true)
theorem bK.step{w:ah}{b:Nat}{bs:ae}(h:bK w b (some bs))(l:ae):bK (w.setCell ⟨b,0,none⟩ (.string (strOf l))) b (some l):=h.left l
theorem gu(b:Nat)(st:Left)(w:ah)(h:bK w b st):Calls prog 41 #[.pointer (some ⟨b,0,none⟩)] w λe w'=>e=.returned (.bool st.isNone)/\w=w':=by
 obtain⟨c0,c1,f0,f1⟩:=h.cells;clear h c0 f0 f1;generalize st.isNone=bad at c1 ⊢;go_enter func41,ntmps41
 go_wp2;go_ret;exact⟨rfl,rfl⟩
theorem Hx(b:Nat)(st:Left)(w:ah)(h:bK w b st):Calls prog 71 #[.pointer (some ⟨b,0,none⟩)] w λe w'=>e=.returned (.tuple #[])/\bK w' b none/\w.grownBy w' (some b):=by
 obtain⟨c0,c1,f0,f1⟩:=h.cells;have H:=I h;clear h;go_enter func71,ntmps71
 go_wp2;go_end0
 refine⟨rfl,?_,ho (ho (dg _ _) _ _) _ _⟩;exact(H.out.left []).bad
theorem Kj(l:ae)(w:ah):Calls prog 18 #[.string (strOf l)] w λe w'=>e=.returned (.pointer (some ⟨w.heap.size,0,none⟩))/\bK w' w.heap.size (some l)/\av w w':=by
 generalize ap:strOf l=s;have ca:=I ap;clear ap;go_enter func18,ntmps18
 go_wp2;go_ret;refine⟨rfl,?_,dM.alloc bl _⟩;rw[<-ca.out];exact Row.new w 73 [.string (strOf l),.bool false]
theorem uE(bs:ae):(strOf bs).toList.isEmpty=decide (bs=[]):=by
 rw[HI];rcases bs with _|⟨x,bs⟩
 .rfl
 .rw[bG (by simp)];rfl
theorem apw(b:Nat)(st:Left)(w:ah)(h:bK w b st):Calls prog 21 #[.pointer (some ⟨b,0,none⟩)] w λe w'=>e=.returned (.bool (decide (st=some [])))/\w=w':=by
 have b5:=I (gu b st w h);obtain⟨c0,c1,f0,f1⟩:=h.cells;clear h c1 f0 f1;rcases st with _|bs
 .rw[bG (by simp)];go_enter func21,ntmps21
  go_wp2_with fail
  refine b5.out.mono ?_;rintro e w' ⟨rfl,rfl⟩;go_wp2;go_ret;exact⟨rfl,rfl⟩
 .have he:=uE bs;have fC:Hid (decide (some bs=some ([]:ae))=decide (bs=[])):=by unfold Hid;simp
  rw[fC.out];rw[b7]at c0;generalize strOf bs=s at c0 he;generalize decide (bs=[])=d at he ⊢;go_enter func21,ntmps21
  go_wp2_with fail
  refine b5.out.mono ?_;rintro e w' ⟨rfl,rfl⟩;go_wp2;go_ret;exact⟨rfl,rfl⟩
theorem aqh(b:Nat)(n:Int)(w:ah)(h:bK w b none):Calls prog 42 #[.pointer (some ⟨b,0,none⟩),.int .i64 n] w λe w'=>e=.returned (.string (strOf []))/\w=w':=by
 have b5:=I (gu b none w h);clear h;go_enter func42,ntmps42
 go_wp2_with fail
 refine b5.out.mono ?_;rintro e w' ⟨rfl,rfl⟩;go_wp2;go_ret;exact⟨rfl,rfl⟩
theorem bK.drew{w:ah}{b:Nat}{st:Left}(h:bK w b st):bK w.drew b st:=h.keep (row:=none) (ns (dg _ _)) (by simp)
theorem aqj(b m:Nat)(n:Int)(bs:ae)(w:ah)(hm:max n 0=(m:Int))(hle:m<=bs.length)(h:bK w b (some bs)) :
  Calls prog 42 #[.pointer (some ⟨b,0,none⟩),.int .i64 n] w λe w'=>e=.returned (.string (strOf (bs.take m)))/\bK w' b (some (bs.drop m))/\w.grownBy w' (some b):=by
 have b5:=I (gu b _ w h);obtain⟨c0,c1,f0,f1⟩:=h.cells;rw[b7]at c0;have bB:=cy bs;have qi:=rb bs m hle;have fG:=o2 bs m hle;have hstep:=h.step (bs.drop m);have kD:=I hstep;have au:(m:Int)<=(bs.length:Int):=by omega
 clear h hstep c1 f1;generalize strOf bs=s at c0 bB qi fG;generalize strOf (bs.take m)=s1 at qi ⊢;generalize strOf (bs.drop m)=s2 at fG kD;go_enter func42,ntmps42
 go_wp2_with fail
 refine b5.out.mono ?_;rintro e w' ⟨rfl,rfl⟩;go_wp2;go_ret;exact⟨rfl,kD,ho (dg _ _) _ _⟩
theorem aqi(b m:Nat)(n:Int)(bs:ae)(w:ah)(hm:max n 0=(m:Int))(hle:bs.length<m)(h:bK w b (some bs)) :
  Calls prog 42 #[.pointer (some ⟨b,0,none⟩),.int .i64 n] w λe w'=>e=.returned (.string (strOf []))/\bK w' b none/\w.grownBy w' (some b):=by
 have b5:=I (gu b _ w h);have br:=I (Hx b _ w h);obtain⟨c0,c1,f0,f1⟩:=h.cells;rw[b7]at c0;have bB:=cy bs;have au:(bs.length:Int)<m:=by omega
 clear h c1 f1 f0;generalize strOf bs=s at c0 bB;go_enter func42,ntmps42
 go_wp2_with fail
 refine b5.out.mono ?_;rintro e w' ⟨rfl,rfl⟩;go_wp2_with fail
 refine br.out.mono ?_;rintro e w' ⟨rfl,eX,cP⟩;go_wp2;go_ret;exact⟨rfl,eX,cP⟩
theorem sC(b:Nat)(st:Left)(n:Int)(w:ah)(h:bK w b st) :
  Calls prog 42 #[.pointer (some ⟨b,0,none⟩),.int .i64 n] w λe w'=>e=.returned (.string (strOf (eH n.toNat st).1))/\bK w' b (eH n.toNat st).2/\w.grownBy w' (some b):=by
 rcases st with _|bs
 .exact(aqh b n w h).mono λe w' ⟨he,hw⟩=>by subst hw;exact⟨he,h,dg _ _⟩
 .have hm:max n 0=(n.toNat:Int):=by omega
  simp only[eH];split
  .exact aqj b _ n bs w hm (by assumption) h
  .exact aqi b _ n bs w hm (by omega) h
theorem aeY(c:Nat)(h:c<256):bits .andNot .u8 (c:Int) 128=((c%128:Nat):Int):=by
 have key:∀c,c<256->bits .andNot .u8 ((c:Nat):Int) 128=((c%128:Nat):Int):=by decide +kernel
 exact key c h
theorem anH(l:ae)(k:Nat)(hk:k<l.length)(dh:k<=9) :
  ∃eB,bits .or .u64 ((eD (l.take k):Nat):Int) (IntKind.u64.wrap (((l[k]%128:Nat):Int)*2^(7*k)))=((eB:Nat):Int)/\eB<2^64/\(k<=8\/l[k]=1->eB=eD (l.take (k+1))):=by
 have hlen:(l.take k).length=k:=by rw[cr];omega
 have aD:=Ph (l.take k);rw[hlen]at aD;have ax:(128:Nat)^k=2^(7*k):=by rw[show(128:Nat)=2^7 by rfl,<-Nat.pow_mul]
 have auW:(128:Nat)^k<=128^9:=dy (by omega) dh;have auV:(128:Nat)^9=2^63:=by decide
 have hv64:eD (l.take k)<2^64:=by omega
 refine⟨_,or_val _ (l[k]%128) (7*k) hv64,?_,?_⟩
 .exact or_lt_two_pow hv64 (mod_lt _ (by decide))
 .intro hc;have hsmall:l[k]%128*2^(7*k)<2^64:=by
   rw[<-ax];rcases hc with h|h
   .have e8:(128:Nat)^k<=128^8:=dy (by omega) h;have auU:127*(128:Nat)^8<2^64:=by decide
    have:=Nat.mul_le_mul (show l[k]%128<=127 by omega) e8;omega
   .rw[h,show 1%128=1 from rfl];omega
  rw[mod_eq_of_lt hsmall,yV (7*k) _ (l[k]%128) (by rw[<-ax];exact aD),ati l k hk,<-ax]
theorem apW(b:Nat)(w:ah)(h:bK w b none):Calls prog 70 #[.pointer (some ⟨b,0,none⟩)] w λe w'=>e=.returned (.int .u64 0)/\w=w':=by
 have b5:=I (gu b none w h);clear h;go_enter func70,ntmps70
 go_wp2_with fail
 refine b5.out.mono ?_;rintro e w' ⟨rfl,rfl⟩;go_wp2;go_ret;exact⟨rfl,rfl⟩
theorem apX(b:Nat)(l:ae)(w:ah)(hl:l.length<=100000000)(au:∀x∈l,x<256)(h:bK w b (some l)) :
  Calls prog 70 #[.pointer (some ⟨b,0,none⟩)] w λe w'=>e=.returned (.int .u64 ((ln (some l)).1:Int))/\bK w' b (ln (some l)).2/\w.grownBy w' (some b):=by
 have b5:=I (gu b _ w h);have br:=I (Hx b _ w h);obtain⟨c0,c1,f0,f1⟩:=h.cells;rw[b7]at c0;have bB:=cy l;have hidx:∀(i:Nat) (W:ah) (ay:i<l.length),(Instr.index 9 (.string (strOf l)) (.int .i64 i)).run prog W=.ok (.int .u8 ((l[i]:Nat):Int)) W:=λi W ay=>pE l i W ay (au _ (b8 ay))
 have fG:=o2 l;have hle:=Nh l;obtain⟨n,aA⟩:∃n,n=l.length:=⟨_,rfl⟩;obtain⟨M,k1⟩:∃M,M=min n 10:=⟨_,rfl⟩;have Gb:min (n:Int) 10=(M:Int):=by omega
 obtain⟨KI,f2,hF⟩:∃f1 f2,ln (some l)=(f1,f2):=⟨_,_,rfl⟩;rw[hF];rw[<-aA]at bB hl;have avi:M<=n:=by omega
 have avh:M<=10:=by omega
 have lF:=I hF;have b0:=I aA;have Ip:=I k1;have aaM:=I Gb;have kC:=I hidx;have P5:=I fG;have ce:=I au;have pe:=I hle;have H:=I h;clear aA hidx fG au hF hle k1 Gb h c1 f1;generalize strOf l=s at bB kC P5 c0;go_enter func70,ntmps70
 go_wp2_with fail
 refine b5.out.mono ?_;rintro e w' ⟨rfl,rfl⟩;go_wp2;rw[aaM.out];go_loop [3,14] (λv i=>∃k V:Nat,k<=M/\Hid (k<=am.lead l)/\i=.int .i64 k/\v=.int .u64 V/\Hid (k<=9->V=eD (l.take k))) (λ_ i=>M-(intOf i).toNat)
 case atStart=>exact⟨0,0,by omega,zero_le _,rfl,rfl,λ_=>rfl⟩
 case round=>
  obtain⟨k,V,av7,a8,rfl,rfl,bW⟩:=hrel;by_cases awj:k<M
  .have ek:k<l.length:=by rw[<-b0.out];omega
   have yn:k<=9:=by omega
   have kG:k<n:=by omega
   obtain⟨eB,sa,avt,Tn⟩:=anH l k ek yn;have Tp:=bW.out yn;rw[<-Tp]at sa;have ai:=λW=>kC.out k W ek
   have tm:=ce.out l[k] (b8 ek);have hand:=aeY l[k] tm;have qZ:=λh=>W1 l k a8.out ek h
   have et:=λh=>WY l k a8.out ek h
   have C7:=λh=>ah1 l ce.out k ek yn h
   have To:k<=8\/l[k]=1->eB=eD (l.take (k+1)):=Tn;have s4:=I qZ;have rr:=I et;have P3:=I C7;have Iv:=I To;have vP:=I sa;clear qZ et C7 Tn To Tp sa;generalize l[k]=c at ai tm hand s4 rr P3 Iv vP;have Gp:=P5.out (k+1) ek;clear ek;obtain⟨d,aI⟩:∃d,d=c%128:=⟨_,rfl⟩;rw[<-aI]at hand vP;have avM:d<=127:=by omega
   clear aI;by_cases h128:128<=c
   .clear Gp;go_wp2;go_round
    case rel=>exact⟨k+1,eB,by omega,s4.out h128,by go_num,by first|rfl|rw[vP.out],λdh=>Iv.out (.inl (by omega))⟩
    case measure=>simp[intOf];omega
   .have hlead:=rr.out (by omega);have LO:=P3.out hlead;have An:=λW=>agv c k W tm yn
    have cP:=lF.out;simp only[ln,LO]at cP;have ja:=I Iv.out;by_cases he:(k=9/\c=1)\/(k≠9/\(c≠0\/k=0))
    .have Am:p8 c k=true:=by unfold p8;exact bE he
     rw[Am]at An;rw[aB he]at cP;simp only[aB (succ_pos k)]at cP;have Tq:=ja.out (by omega);obtain⟨rfl,rfl⟩:eB=KI/\some (l.drop (k+1))=f2:=by injection cP with h1 af;exact⟨by rw[Tq];exact h1,af⟩
     have hstep:=H.out.step (l.drop (k+1));rw[show((k+1:Nat):Int)=k+1 by omega]at Gp;have xq:=I An;have kD:=I hstep;clear cP An LO hlead Am he Tq hstep;generalize strOf (l.drop (k+1))=s2 at Gp kD;go_wp2_with fail
     refine(xq.out _).mono ?_;rintro e w' ⟨rfl,rfl⟩;go_wp2;rw[vP.out];go_ret;exact⟨rfl,kD,ho (dg _ _) _ _⟩
    .have Am:p8 c k=false:=by unfold p8;exact bG he
     rw[Am]at An;rw[az he]at cP;simp only[Nat.lt_irrefl,if_false]at cP;obtain⟨rfl,rfl⟩:0=KI/\none=f2:=by injection cP with h1 af;exact⟨h1,af⟩
     have xq:=I An;clear cP An LO hlead Am he Gp;go_wp2_with fail
     refine(xq.out _).mono ?_;rintro e w' ⟨rfl,rfl⟩;go_wp2_with fail
     refine br.out.mono ?_;rintro e w' ⟨rfl,eX,cP⟩;go_wp2;go_ret;exact⟨rfl,eX,cP⟩
  .have cP:=lF.out;have hlong:aX l=(0,0):=by
    refine KM l ?_;have h1:=a8.out;have af:=pe.out;have aq:=b0.out;have aK:=Ip.out;omega
   simp only[ln,hlong,Nat.lt_irrefl,if_false]at cP;obtain⟨rfl,rfl⟩:0=KI/\none=f2:=by injection cP with h1 af;exact⟨h1,af⟩
   obtain rfl:k=M:=by omega
   clear cP hlong;go_wp2_with fail
   refine br.out.mono ?_;rintro e w' ⟨rfl,eX,cP⟩;go_wp2;go_ret;exact⟨rfl,eX,cP⟩
theorem apV(b:Nat)(st:Left)(w:ah)(cV:ph st)(h:bK w b st) :
  Calls prog 70 #[.pointer (some ⟨b,0,none⟩)] w λe w'=>e=.returned (.int .u64 ((ln st).1:Int))/\bK w' b (ln st).2/\w.grownBy w' (some b):=by
 rcases st with _|l
 .exact(apW b w h).mono λe w' ⟨he,hw⟩=>by subst hw;exact⟨he,h,dg _ _⟩
 .exact apX b l w cV.2 cV.1 h
theorem aty(a:Addr)(w:ah):Calls prog 33 #[.pointer (some a),.string (strOf [])] w λe w'=>e=.returned (.pointer (some a))/\w=w':=by
 have he:(strOf []).toList.isEmpty=true:=by rw[uE];rfl
 generalize strOf []=s at he ⊢;go_enter func33,ntmps33
 go_wp2;go_ret;exact⟨rfl,rfl⟩
def more(w:ah)(b:Nat)(p:a7)(n:Int)(s:ByteArray):ah:=
 ((w.setCell ⟨b,0,none⟩ (.pointer (some ⟨w.heap.size,0,none⟩))).setCell ⟨b,1,none⟩ (.int .i64 n)).alloc (.cells #[.pointer p,.string s] 103)
theorem ag6{w:ah}{b:Nat}{p:a7}{ky:List (ae)}{n:Int}(s:ae)(ap:s≠[])(ao:Row w b 62 [.pointer p,.int .i64 n])(hc:PC w p ky) :
  fH (more w b p ((ky.reverse.flatten.length:Int)+(s.length:Int)) (strOf s)) b (ky.reverse.flatten++s)/\w.grownBy (more w b p ((ky.reverse.flatten.length:Int)+(s.length:Int)) (strOf s)) (some b):=by
 have ak:=ao.lt;have aF:w.grownBy (more w b p ((ky.reverse.flatten.length:Int)+(s.length:Int)) (strOf s)) (some b):=
  im (ho (ho (dg _ _) _ _) _ _) _
 refine⟨⟨some ⟨w.heap.size,0,none⟩,s::ky,?_,⟨w.heap.size,p,rfl,?_,ap,hc.keep (Yb aF (λg e=>?_))⟩,by simp⟩,aF⟩
 .have h1:=((ao.bq 0 (.pointer (some ⟨w.heap.size,0,none⟩))).bq 1 (.int .i64 ((ky.reverse.flatten.length:Int)+(s.length:Int)))).alloc (.cells #[.pointer p,.string (strOf s)] 103);rw[aY,Int.natCast_add];exact h1
 .have h1:=Row.new ((w.setCell ⟨b,0,none⟩ (.pointer (some ⟨w.heap.size,0,none⟩))).setCell ⟨b,1,none⟩ (.int .i64 ((ky.reverse.flatten.length:Int)+(s.length:Int)))) 103 [.pointer p,.string (strOf s)];simpa [more]using h1
 .injection e with e
  subst e;exact ao.sx (by decide)
theorem atz(b:Nat)(bs s:ae)(w:ah)(ap:s≠[])(hl:bs.length+s.length<=1000000000)(h:fH w b bs) :
  Calls prog 33 #[.pointer (some ⟨b,0,none⟩),.string (strOf s)] w λe w'=>e=.returned (.pointer (some ⟨b,0,none⟩))/\fH w' b (bs++s)/\w.grownBy w' (some b):=by
 obtain⟨p,ky,ao,hc,e⟩:=h;have hend:=ag6 s ap ao hc;have c0:=ao.cell 0;have c1:=ao.cell 1;have f0:=ao.free 0;have f1:=ao.free 1;have eu:=ao.lt;simp only[dH,dJ]at c0 c1;rw[<-e]at hend;have he:(strOf s).toList.isEmpty=false:=by rw[uE];simp[ap]
 have bB:=cy s;have dO:=I hend;clear hend ao hc e ap;generalize strOf s=str at he bB dO ⊢;go_enter func33,ntmps33
 go_wp2;go_ret;exact⟨rfl,dO.out.1,dO.out.2⟩
theorem tR(b:Nat)(bs s:ae)(w:ah)(hl:bs.length+s.length<=1000000000)(h:fH w b bs) :
  Calls prog 33 #[.pointer (some ⟨b,0,none⟩),.string (strOf s)] w λe w'=>e=.returned (.pointer (some ⟨b,0,none⟩))/\fH w' b (bs++s)/\w.grownBy w' (some b):=by
 by_cases ap:s=[]
 .subst ap;exact(aty _ w).mono λe w' ⟨he,hw⟩=>by subst hw;exact⟨he,by rw[append_nil];exact h,dg _ _⟩
 .exact atz b bs s w ap hl h
theorem ahW(v m:Nat)(h:m<=8):(h6 (List.replicate 8 0) 0 8 v).take m=am.bytesOf v m:=by
 have e:h6 (List.replicate 8 0) 0 8 v=am.bytesOf v 8:=by simp[h6]
 rw[e,am.bytesOf_take _ _ _ h]
theorem aqc{w:ah}{g k v:Nat}{ag:ae}{t:TypeId}(hl:k<ag.length)(h:Row w g t (aO (h6 ag 0 k v))) :
  Row (w.setCell ⟨g,k,none⟩ (.int .u8 ((v/256^k%256:Nat):Int))) g t (aO (h6 ag 0 (k+1) v)):=by
 have h1:=h.bq k (.int .u8 ((v/256^k%256:Nat):Int));have af:=Ss ag 0 k v (by omega);rw[ez]at af;rw[Bg,af]at h1;exact h1
theorem Kn{w:ah}{g m c:Nat}{t:TypeId}{ag:ae}(h:Row w g t (aO ag))(hm:m<=ag.length)(au:∀x∈ag,x<256) :
  (convert 87 9 (.slice (some ⟨g,0,none⟩) m c)).run prog w=.ok (.string (strOf (ag.take m))) w:=by
 have h1:=oL w (some ⟨g,0,none⟩) c (ag.take m) (pN au m) (λ_=>⟨g,0,rfl,λj ar=>by
  have Ar:j<m:=by simp[aO]at ar;omega
  rw[ez,h.cell j];simp[aO,Ar]⟩)
 rw[cr,Nat.min_eq_left hm]at h1;exact h1
theorem ara(g m:Nat)(W:ah)(h:m<=8):(Instr.sliceAt 101 (.pointer (some ⟨g,0,none⟩)) none (some (.int .i64 m)) none).run prog W=.ok (.slice (some ⟨g,0,none⟩) m 8) W:=by
 have hl:prog.arrayLen 101=8:=by kernel_rfl
 have he:prog.elem 101=5:=by kernel_rfl
 rw[run_sliceAt_array_h W 101 ⟨g,0,none⟩ (by kernel_rfl) .i64 m (by omega) (by rw[hl];omega),hl,he];go_simp
theorem ef{w aw aC:ah}{row:Option Nat}(h:w.grownBy aw row)(af:aw.grownBy aC row):w.grownBy aC row:=
 ⟨af.os.trans h.os,af.tape.trans h.tape,af.output.trans h.output,dl h.size af.size,λi ay aA=>(af.block i (gJ ay h.size) aA).trans (h.block i ay aA)⟩
theorem HV(b v:Nat)(n:Int)(bs:ae)(w:ah)(g6:-9223372036854775808<=n)(iK:n<=9223372036854775807)(aD:v<2^64)(hl:bs.length<=100000000)(h:fH w b bs) :
  Calls prog 31 #[.pointer (some ⟨b,0,none⟩),.int .u64 v,.int .i64 n] w λe w'=>e=.returned (.pointer (some ⟨b,0,none⟩))/\fH w' b (bs++am.bytesOf v (fO n))/\w.grownBy w' (some b):=by
 have dZ:=KS n;have br:=I (λw=>RG n w g6 iK);have IL:=I h;have gj:=I hl;have aF:Row (w.alloc (.cells (aO (List.replicate 8 0)).toArray 101)) w.heap.size 101 (aO (List.replicate 8 0)):=Row.new w _ _;have jb:=I aF;have nt:v<=18446744073709551615:=by omega
 clear h hl aF aD;generalize fO n=m at dZ br ⊢;go_enter func31,ntmps31
 go_wp2;go_loopw [9] (λi wr=>∃k:Nat,k<=8/\i=.int .i64 k/\Hid (Row wr w.heap.size 101 (aO (h6 (List.replicate 8 0) 0 k v)))/\Hid (av w wr)) (λi _=>8-(intOf i).toNat)
 case atStart=>exact⟨0,by omega,rfl,jb.out,dM.alloc bl _⟩
 case round=>
  obtain⟨k,hk,rfl,hrow,hbel⟩:=hrel;have hlen:(h6 (List.replicate 8 0) 0 k v).length=8:=by rw[Sr _ _ _ _ (by simp;omega)];simp
  by_cases au:k<8
  .have hcell:=hrow.out.cell k;have hfree:=hrow.out.free k;rw[jq _ _ (by omega)]at hcell;generalize (h6 (List.replicate 8 0) 0 k v)[k]=old at hcell;clear hlen;go_wp2;rw[Rr];go_roundw
   case rel=>exact⟨k+1,by omega,by go_num,aqc (by simp;omega) hrow.out,hbel.out.setCell bl _⟩
   case measure=>simp[intOf];omega
  .obtain rfl:k=8:=by omega
   have dS:=Kn (m:=m) (c:=8) hrow.out (by omega) (λx ai=>by
    simp[h6]at ai;exact ut _ _ x ai)
   rw[ahW _ _ dZ]at dS;have qP:=IL.out.below hbel.out;have Av:bs.length+(am.bytesOf v m).length<=1000000000:=by rw[am.bytesOf_length];have:=gj.out;omega
   have fD:=I (tR b bs _ wr Av qP);have fQ:=ara w.heap.size m wr dZ;have kS:=I (dj hbel.out (some b));clear hlen Av qP au;generalize strOf (am.bytesOf v m)=str at dS fD;go_wp2_with fail
   refine(br.out _).mono ?_;rintro e w' ⟨rfl,rfl⟩;go_wp2_with fail
   refine fD.out.mono ?_;rintro e w' ⟨rfl,aji,ajQ⟩;go_wp2;go_ret;exact⟨rfl,aji,ef kS.out ajQ⟩
theorem nW(w:ah)(l:ae)(au:∀x∈l,x<256):∃aC cap,(convert 9 87 (.string (strOf l))).run prog w=.ok (.slice (some ⟨w.heap.size,0,none⟩) l.length cap) aC /\
  (∀j (h:j<l.length),aC.cell? ⟨w.heap.size,j,none⟩=some (.int .u8 (l[j]:Int)))/\av w aC:=by
 have h:=run_bytes_of_string (P:=prog) w 9 87 5 (strOf l) underlying9 underlying87 underlying5;rw[cy]at h;refine⟨_,_,h,?_,?_⟩
 .intro j ar;have ap:j<(strOf l).data.size:=by simp[strOf];exact ar
  have h1:=bytesRow_at (strOf l) (grownCap w l.length 0 5) j ap;have e:(strOf l).data[j]=UInt8.ofNat l[j]:=by simp[strOf]
  rw[e,UInt8.toNat_ofNat_of_lt' (au _ (b8 ar))]at h1;rw[cell_of_row _ w.heap.size j _ _ _ (heap_alloc_new w.drew _)];exact h1
 .exact dM.drew.alloc bl _
theorem Bc(b:Nat)(st:Left)(most:Int)(w:ah)(h8:-9223372036854775808<=most)(lS:most<=9223372036854775807)(cV:ph st)(h:bK w b st) :
  Calls prog 40 #[.pointer (some ⟨b,0,none⟩),.int .i64 most] w λe w'=>e=.returned (.int .i64 ((lx most st).1:Int))/\bK w' b (lx most st).2/\w.grownBy w' (some b):=by
 have jb:=I (apV b st w cV h);have hok2:=XP cV;unfold lx;obtain⟨v,sE,n3⟩:∃v sE,ln st=(v,sE):=⟨_,_,rfl⟩;rw[n3]at jb hok2 ⊢;have aD:=hok2.2;clear hok2 n3 h cV;rcases sE with _|l
 .rw[aB (.inl rfl)];go_enter func40,ntmps40
  go_wp2_with fail
  refine jb.out.mono ?_;rintro e aw ⟨rfl,eX,cP⟩;have b5:=I (gu b none aw eX);go_wp2_with fail
  refine b5.out.mono ?_;rintro e w' ⟨rfl,rfl⟩;go_wp2;go_ret;exact⟨rfl,eX,cP⟩
 .by_cases hneg:most<0
  .rw[aB (.inr (.inl hneg))];go_enter func40,ntmps40
   go_wp2_with fail
   refine jb.out.mono ?_;rintro e aw ⟨rfl,eX,cP⟩;have b5:=I (gu b _ aw eX);have br:=I (Hx b _ aw eX);have kS:=I cP;clear eX cP;go_wp2_with fail
   refine b5.out.mono ?_;rintro e w' ⟨rfl,rfl⟩;go_wp2_with fail
   refine br.out.mono ?_;rintro e aC ⟨rfl,eX,cP⟩;go_wp2;go_ret;exact⟨rfl,eX,ef kS.out cP⟩
  .obtain⟨m,rfl⟩:=Int.eq_ofNat_of_zero_le (show 0<=most by omega);by_cases mT:m<v
   .rw[aB (.inr (.inr (by show((m:Nat):Int)<((v:Nat):Int);omega)))];clear aD;go_enter func40,ntmps40
    go_wp2_with fail
    refine jb.out.mono ?_;rintro e aw ⟨rfl,eX,cP⟩;have b5:=I (gu b _ aw eX);have br:=I (Hx b _ aw eX);have kS:=I cP;clear eX cP;go_wp2_with fail
    refine b5.out.mono ?_;rintro e w' ⟨rfl,rfl⟩;go_wp2_with fail
    refine br.out.mono ?_;rintro e aC ⟨rfl,eX,cP⟩;go_wp2;go_ret;exact⟨rfl,eX,ef kS.out cP⟩
   .rw[az (by show ¬(some l=none\/((m:Nat):Int)<0\/((m:Nat):Int)<((v:Nat):Int));simp;omega)];have V9:v<=m:=by omega
    clear aD mT;go_enter func40,ntmps40
    go_wp2_with fail
    refine jb.out.mono ?_;rintro e aw ⟨rfl,eX,cP⟩;have b5:=I (gu b _ aw eX);have BF:=I eX;have kS:=I cP;clear eX cP;go_wp2_with fail
    refine b5.out.mono ?_;rintro e w' ⟨rfl,rfl⟩;go_wp2;go_ret;exact⟨rfl,BF,kS⟩
theorem Eh(b:Nat)(st:Left)(most:Int)(w:ah)(h8:-9223372036854775808<=most)(lS:most<=9223372036854775807)(cV:ph st)(h:bK w b st) :
  Calls prog 112 #[.pointer (some ⟨b,0,none⟩),.int .i64 most] w λe w'=>e=.returned (.string (strOf (sG most st).1))/\bK w' b (sG most st).2/\w.grownBy w' (some b):=by
 have sW:=I (Bc b st most w h8 lS cV h);unfold sG;obtain⟨v,sE,n3⟩:∃v sE,lx most st=(v,sE):=⟨_,_,rfl⟩;rw[n3]at sW ⊢;have aj:∀aw,bK aw b sE->_:=λaw h1=>sC b sE (v:Int) aw h1
 rw[cX]at aj;have bj:=I aj;clear n3 h cV aj h8 lS;go_enter func112,ntmps112
 go_wp2_with fail
 refine sW.out.mono ?_;rintro e aw ⟨rfl,eX,cP⟩;have kS:=I cP;have BF:=I (bj.out aw eX);clear eX cP;go_wp2_with fail
 refine BF.out.mono ?_;rintro e aC ⟨rfl,eX,cP⟩;go_wp2;go_ret;exact⟨rfl,eX,ef kS.out cP⟩
theorem anE(l:ae)(k:Nat)(hk:k<l.length)(e8:l.length<=8)(au:∀x∈l,x<256) :
  bits .or .u64 ((bd (l.take k):Nat):Int) (IntKind.u64.wrap ((l[k]:Int)*2^(8*k)))=((bd (l.take (k+1)):Nat):Int):=by
 have hlen:(l.take k).length=k:=by rw[cr];omega
 have aD:=o4 (l.take k) (pN au k);rw[hlen,h0]at aD;have ak:=au l[k] (b8 hk);have ax:(2:Nat)^(8*k)<=2^56:=dy (by omega) (by omega);have nt:l[k]*2^(8*k)<2^64:=by
  have:=Nat.mul_le_mul (show l[k]<=255 by omega) ax;omega
 rw[or_val _ _ _ (by omega),mod_eq_of_lt nt,yV _ _ _ aD,fY hk,EA,hlen,h0]
theorem Ee(b:Nat)(st:Left)(n:Int)(w:ah)(g6:-9223372036854775808<=n)(iK:n<=9223372036854775807)(cV:ph st)(h:bK w b st) :
  Calls prog 39 #[.pointer (some ⟨b,0,none⟩),.int .i64 n] w λe w'=>e=.returned (.int .u64 (bd (eH (fO n) st).1:Int))/\bK w' b (eH (fO n) st).2/\w.grownBy w' (some b):=by
 have dZ:=KS n;have jI:=I (RG n w g6 iK);have aj:=sC b st (fO n:Int) w h;rw[cX]at aj;have hok2:=XQ (n:=fO n) cV;generalize fO n=m at *;obtain⟨l,sE,n3⟩:∃l sE,eH m st=(l,sE):=⟨_,_,rfl⟩;rw[n3]at aj hok2 ⊢;have au:=hok2.2.1;have yp:l.length<=8:=dl hok2.2.2 dZ;have bj:=I aj;have ce:=I au;obtain⟨res,hres⟩:∃r,r=bd l:=⟨_,rfl⟩;rw[<-hres];have b4:=I hres;clear aj hok2 cV h n3 au g6 iK dZ hres;go_enter func39,ntmps39
 go_wp2_with fail
 refine jI.out.mono ?_;rintro e w' ⟨rfl,rfl⟩;go_wp2_with fail
 refine bj.out.mono ?_;rintro e aw ⟨rfl,eX,cP⟩;obtain⟨aC,cap,dS,hcells,hbel⟩:=nW aw l ce.out;have mq:=eX.lt;have BF:=I (eX.below hbel);have kS:=I (ef cP (dj hbel (some b)));have sT:=I hcells;have vP:=I (λk hk=>anE l k hk yp ce);clear eX cP hcells hbel;obtain⟨g,aF⟩:∃g,g=aw.heap.size:=⟨_,rfl⟩;rw[<-aF]at dS sT;clear aF;generalize strOf l=s at dS ⊢;obtain⟨N,cU⟩:∃N,N=l.length:=⟨_,rfl⟩;rw[<-cU]at dS yp;have jr:=I cU;clear cU;go_wp2;go_loop [5,14] (λv i=>∃k V:Nat,k<=N/\i=.int .i64 k/\v=.int .u64 V/\Hid (V=bd (l.take k))) (λ_ i=>N-(intOf i).toNat)
 case atStart=>exact⟨0,0,by omega,rfl,rfl,rfl⟩
 case round=>
  obtain⟨k,V,hk,rfl,rfl,bW⟩:=hrel;by_cases au:k<N
  .have ek:k<l.length:=by rw[<-jr.out];exact au
   have hc:=sT.out k ek;have tm:=ce.out l[k] (b8 ek);have sa:=vP.out k ek;rw[<-bW.out]at sa;have Ql:=I sa;clear sa;generalize l[k]=c at hc tm Ql;clear ek;go_wp2;rw[Ql.out];go_round
   case rel=>exact⟨k+1,_,by omega,by go_num,rfl,rfl⟩
   case measure=>simp[intOf];omega
  .obtain rfl:k=N:=by omega
   have aiV:V=res:=by rw[bW.out,jr.out,take_length,b4.out]
   subst aiV;go_wp2;go_ret;exact⟨rfl,BF,kS⟩
theorem SG(t:ae)(ao:0<(aX t).2):ln (some t)=((aX t).1,some (t.drop (aX t).2)):=by
 simp only[ln,aB ao]
theorem aii(t:ae)(ao:¬0<(aX t).2):ln (some t)=(0,none):=by
 simp only[ln,az ao]
theorem wV(m:Int)(t:ae)(ao:0<(aX t).2)(hm:((aX t).1:Int)<=m):lx m (some t)=((aX t).1,some (t.drop (aX t).2)):=by
 unfold lx;rw[SG t ao,az];rintro(h|h|h)
 .cases h
 .omega
 .dsimp only at h;omega
theorem AU(m:Int)(t:ae)(h:¬(0<(aX t).2/\((aX t).1:Int)<=m)):lx m (some t)=(0,none):=by
 unfold lx;by_cases ao:0<(aX t).2
 .rw[SG t ao,aB];by_cases hm:m<0
  .exact .inr (.inl hm)
  .exact .inr (.inr (by dsimp only;omega))
 .rw[aii t ao,aB (.inl rfl)]
theorem asm(t:ae)(h:0<(aX t).2/\(aX t).1<=t.length-(aX t).2)(_:t.length<=100000000) :
  sG 9223372036854775807 (some t)=((t.drop (aX t).2).take (aX t).1,some (t.drop ((aX t).2+(aX t).1))):=by
 unfold sG;rw[wV 9223372036854775807 t h.1 (by omega)];simp only[eH];rw[aB (by rw[cB];exact h.2),drop_drop]
theorem asl(t:ae)(h:¬(0<(aX t).2/\(aX t).1<=t.length-(aX t).2))(_:t.length<=100000000) :
  sG 9223372036854775807 (some t)=([],none):=by
 unfold sG;by_cases ao:0<(aX t).2/\((aX t).1:Int)<=9223372036854775807
 .rw[wV 9223372036854775807 t ao.1 ao.2];simp only[eH];rw[az (by rw[cB];omega)]
 .rw[AU 9223372036854775807 t ao];rfl
theorem apL{w w':ah}{b:Nat}{st:Left}{A:a7}{l:ae}(h:bK w b st)(aj:Reads w A (aM l))(aF:w.grownBy w' (some b)):Reads w' A (aM l):=λaZ=>by
 obtain⟨g,off,rfl,hc⟩:=aj aZ;refine⟨g,off,rfl,λj ar=>?_⟩;have h1:=hc j ar;rw[gm]at ar;rw[iN l j ar]at h1 ⊢;refine aF.cell h1 (λe=>?_);injection e with e
 dsimp only at e;subst e;have af:=(Row.cell h (off+j)).symm.trans h1;have iu:∀(m:Nat) (z:Int),(qp st)[m]?≠some (.int .i64 z):=by
  intro m z ai;rcases st with _|bs
  all_goals
   match m,ai with
  |0,ai=>simp[qp]at ai
  |1,ai=>simp[qp]at ai
  |m+2,ai=>simp[qp]at ai
 exact iu _ _ af
theorem FW(k:Nat)(r:ae):eH (fO 1) (some (k::r))=([k],some r):=by
 rw[show fO 1=1 by decide];simp[eH]
theorem Ec(n:Nat)(t:ae)(h:n<=t.length):eH n (some t)=(t.take n,some (t.drop n)):=by
 simp only[eH,aB h]
theorem Eb(n:Nat)(t:ae)(h:¬n<=t.length):eH n (some t)=([],none):=by
 simp only[eH,az h]
theorem ari(w:ah):Calls prog 44 #[] w λe w'=>e=.returned (.agg #[.int .u64 7640891576956012808,.int .u64 0])/\av w w':=by
 go_enter func44,ntmps44
 go_wp2;refine bodyPost_ret (v:=.agg #[.int .u64 7640891576956012808,.int .u64 0]) (by simp[results,results44,go_sem]) rfl ⟨rfl,?_⟩;exact dM.alloc bl _
theorem aqA(h n b:Nat)(w:ah)(hh:h<18446744073709551616)(ak:b<256) :
  Calls prog 75 #[.agg #[.int .u64 h,.int .u64 n],.int .u8 b] w λe w'=>e=.returned (.agg #[.int .u64 (tN h b),.int .u64 (((n+1)%18446744073709551616:Nat):Int)])/\av w w':=by
 have aG:=Zg h b hh ak;have e2:=Zh h b;generalize sv h b=m at aG e2;generalize tN h b=r at e2 ⊢;go_enter func75,ntmps75
 go_wp2;refine bodyPost_ret (v:=.agg #[.int .u64 r,.int .u64 (IntKind.u64.wrap ((n:Int)+1))]) (by simp[results,results75,go_sem]) rfl ⟨?_,?_⟩
 .rw[IntKind.wrap_u64];simp
 .exact(dM.alloc bl _).alloc (by simp) _
theorem arn(h n:Nat)(w:ah):Calls prog 46 #[.agg #[.int .u64 h,.int .u64 n]] w λe w'=>e=.returned (.int .u64 (y3 h n))/\av w w':=by
 have aG:=Zw h n;have e2:=Zx h n;generalize sw h n=m at aG e2;generalize y3 h n=r at e2 ⊢;go_enter func46,ntmps46
 go_wp2;go_ret;exact⟨rfl,dM.alloc bl _⟩
def q7(h n:Nat):b1:=[.int .u64 h,.int .u64 n]
theorem Row.state{w:ah}{b h n j7 DZ:Nat}(aj:Row w b 79 (q7 h n)):Row ((w.setCell ⟨b,0,none⟩ (.int .u64 j7)).setCell ⟨b,1,none⟩ (.int .u64 DZ)) b 79 (q7 j7 DZ):=
 (aj.bq 0 (.int .u64 j7)).bq 1 (.int .u64 DZ)
theorem aqx(h n:Nat)(l:ae)(w:ah)(hh:h<18446744073709551616)(aA:n<18446744073709551616)(hl:l.length<=1000000000)(au:∀x∈l,x<256) :
  Calls prog 45 #[.agg #[.int .u64 h,.int .u64 n],.string (strOf l)] w λe w'=>e=.returned (.agg #[.int .u64 (km h l),.int .u64 (((n+l.length)%18446744073709551616:Nat):Int)])/\av w w':=by
 have bB:=cy l;have hidx:∀(i:Nat) (W:ah) (ay:i<l.length),(Instr.index 9 (.string (strOf l)) (.int .i64 i)).run prog W=.ok (.int .u8 ((l[i]:Nat):Int)) W:=λi W ay=>pE l i W ay (au _ (b8 ay))
 have kC:=I hidx;have ce:=I au;have b0:=I aA;have hres:∀k,k<l.length->tN (km h (l.take k)) (l[k]?.getD 0)=km h (l.take (k+1)):=λk hk=>by
  rw[KQ h l k hk];simp[hk]
 have b4:=I hres;have ET:=I (λk=>SC h (l.take k) hh);obtain⟨r,aj⟩:∃r,r=km h l:=⟨_,rfl⟩;rw[<-aj];have bj:=I aj;obtain⟨N,cU⟩:∃N,N=(n+l.length)%18446744073709551616:=⟨_,rfl⟩;rw[<-cU];have jr:=I cU;clear cU;clear hidx au aA hres aj;generalize strOf l=s at bB kC ⊢;go_enter func45,ntmps45
 go_wp2;go_loopw [5,8] (λx i wr=>∃k:Nat,k<=l.length/\i=.int .i64 k/\Hid (Row wr w.heap.size 79 (q7 (km h (l.take k)) ((n+k)%18446744073709551616)))/\Hid (Row wr (w.heap.size+1) 79 (q7 0 0))/\Hid (av w wr)) (λ_ i _=>l.length-(intOf i).toNat)
 case atStart=>
  refine⟨0,by omega,rfl,?_,?_,?_⟩
  .rw[show(n+0)%18446744073709551616=n from mod_eq_of_lt b0.out];exact(Row.new w 79 (q7 h n)).alloc _
  .have af:=Row.new (w.alloc (.cells #[.int .u64 h,.int .u64 n] 79)) 79 (q7 0 0);rw[show(w.alloc (.cells #[.int .u64 h,.int .u64 n] 79)).heap.size=w.heap.size+1 by simp]at af;exact af
  .exact(dM.alloc bl _).alloc (by simp) _
 case round=>
  obtain⟨k,hk,rfl,hrow,hrow2,hbel⟩:=hrel;by_cases a8:k<l.length
  .have ai:=λW=>kC.out k W a8
   have jl:=λm W=>aqA (km h (l.take k)) m l[k] W (ET.out k) (ce.out _ (b8 a8))
   rw[show tN (km h (l.take k)) l[k]=km h (l.take (k+1)) by rw[KQ h l k a8]]at jl;have fg:=I (λm=>show((n+k)%18446744073709551616+1)%18446744073709551616=m->m=(n+(k+1))%18446744073709551616 from λe=>by omega);generalize (n+k)%18446744073709551616=m at hrow fg;have jl:=jl m;generalize hm:(m+1)%18446744073709551616=oW at jl;have cj:=I (fg.out oW hm);have lH:=I jl;clear hm jl;generalize l[k]=b at ai lH;generalize km h (l.take k)=y at lH hrow;generalize Wn:km h (l.take (k+1))=atM at lH;have aeo:=I Wn;clear Wn;have c0:=hrow.out.cell 0;have c1:=hrow.out.cell 1;simp only[q7,dH,dJ]at c0 c1;go_wp2;go_still_tail 4,(by kernel_rfl)
   change wpList _ _ _ _ _ wr.drew;clear ai c0 c1;have hrow':Row wr.drew w.heap.size 79 (q7 y m):=hrow.out;have Vp:Row wr.drew (w.heap.size+1) 79 (q7 0 0):=hrow2.out;have Gj:Below w.heap.size w wr.drew:=hbel.out.drew;have dr:=I hrow';have hi:=I Vp;have ie:=I Gj;clear hrow hrow2 hbel hrow' Vp Gj;generalize wr.drew=aw at dr hi ie ⊢;go_wp2_with fail
   refine(lH.out aw).mono ?_;rintro e aC ⟨rfl,aJ⟩;have hrow:=dr.out.below aJ;have kU:=I hrow;have ug:=I (hi.out.below aJ);have ru:=b3 ie aJ;have c0:=hrow.cell 0;have c1:=hrow.cell 1;simp only[q7,dH,dJ]at c0 c1;have f0:=hrow.free 0;have f1:=hrow.free 1;clear hrow aJ;go_wp2;go_roundw
   case rel=>
    refine⟨k+1,by omega,by go_num,?_,?_,?_⟩
    .rw[aeo.out,<-cj.out];exact kU.out.state
    .exact(ug.out.cG (by simp) _).cG (by simp) _
    .exact(ru.out.setCell bl _).setCell bl _
   case measure=>simp[intOf];omega
  .obtain rfl:k=l.length:=by omega
   rw[take_length,<-bj.out,<-jr.out]at hrow;have c0:=hrow.out.cell 0;have c1:=hrow.out.cell 1;have d0:=hrow2.out.cell 0;have d1:=hrow2.out.cell 1;simp only[q7,dH,dJ]at c0 c1 d0 d1;have f0:=hrow2.out.free 0;have f1:=hrow2.out.free 1;clear hrow;have s0:=(hrow2.out.bq 0 (.int .u64 r)).cell 0;have s1:=((hrow2.out.bq 0 (.int .u64 r)).bq 1 (.int .u64 N)).cell 1;simp only[q7,set_cons_zero,set_cons_succ,dH,dJ]at s0 s1;have dY:=I s0;have cZ:=I s1;clear s0 s1;go_wp2;have s0:=dY.out;have s1:=cZ.out;refine bodyPost_ret (v:=.agg #[.int .u64 r,.int .u64 N]) (by simp[results,results45,go_sem,s0,s1]) rfl ⟨rfl,?_⟩;exact(hbel.out.setCell (by simp) _).setCell (by simp) _
theorem WB:(prog.info? 3).map (λi=>(i.zero,i.size,i.bytes))=some (some (.int .i64 0),1,8):=by kernel_rfl
theorem ap6(v n:Nat)(w:ah)(aD:v<4294967296)(aA:n<=32) :
  Calls prog 121 #[.int .u32 v,.int .i64 n] w λe w'=>
   ∃u,e=.returned u/\w'.ownsRow w.heap.size 3 1 u n (aM (am.bitsOf v n))/\av w w'/\(n=0->u=.slice none 0 0):=by
 obtain⟨i0,ay,bC,bL,bz⟩:=info_parts WB;go_enter func121,ntmps121
 go_wp2;go_loopw [5,6] (λu i wr=>∃k:Nat,k<=n/\i=.int .i64 k/\wr.ownsRow w.heap.size 3 1 u k (aM (am.bitsOf v k))/\av w wr/\(k=0->u=.slice none 0 0)) (λ_ i _=>n-(intOf i).toNat)
 case atStart=>exact⟨0,zero_le _,rfl,World.ownsRow_nil _ _ _ _,Below.refl _ _,λ_=>rfl⟩
 case round=>
  obtain⟨k,hk,rfl,hown,hbel,hnil⟩:=hrel;have dc:0<=(v:Int)/2^k:=Int.ediv_nonneg (by omega) (by exact_mod_cast zero_le (2^k));have aH:(v:Int)/2^k<=4294967295:=by
   have h1:(v:Int)/2^k=((v/2^k:Nat):Int):=by simp
   have af:=div_le_self v (2^k);omega
  by_cases au:k<n
  .go_wp2_with (at_builtin;refine wpList_append_own _ rfl _ _ 112 rfl w.heap.size 3 i0 (.int .i64 0) 1 8 underlying112 ay bC bL bz rfl (by decide) _ _ _ rfl (hown.alloc _) ⟨wr.heap.size,0,none⟩ 1 1 [.int .i64 ((v:Int)/2^k%2)] rfl rfl ?c1 ?c2 ?c3 ?c4 ?c5 ?_)
   case c1=>
    intro j u ar;match j,ar with
   |0,ar=>simp at ar;subst ar;simp[Addr.add]
   case c2=>intro u hu;simp at hu;subst hu;rfl
   case c3=>unfold maxLen;omega
   case c4=>omega
   case c5=>have:=hbel.size;simp;omega
   intro gN aw hown' hgrow _;have e:aM (am.bitsOf v k)++[Value.int .i64 ((v:Int)/2^k%2)]=aM (am.bitsOf v (k+1)):=by
    rw[afv];simp[aM]
   rw[e]at hown';have hV:av w aw:=(hbel.alloc hbel.size _).grown hgrow (by have:=hbel.size;simp;omega) (λq hq=>(hown.lt q hq).1);have iR:=I hown';have b5:=I hV;clear hown' hV hgrow hown hbel e;go_wp2;go_roundw
   case rel=>exact⟨k+1,by omega,by go_num,iR.out,b5.out,λh=>by omega⟩
   case measure=>simp[intOf];omega
  .go_wp2;obtain rfl:k=n:=by omega
   go_ret;exact⟨_,rfl,hown,hbel,hnil⟩
theorem ap5(v:Nat)(w:ah)(aD:v<4294967296) :
  Calls prog 121 #[.int .u32 v,.int .i64 8] w λe w'=>
   ∃u,e=.returned u/\w'.ownsRow w.heap.size 3 1 u 8 (aM (am.bitsOf v 8))/\av w w'/\(8=0->u=.slice none 0 0):=ap6 v 8 w aD (by omega)
theorem Hv(A:a7)(c:Nat)(bs:ae)(w:ah)(aA:bs.length<=100000)(cs:∀b∈bs,b<256)(aj:Reads w A (aO bs))(hA:∀a,A=some a->0<bs.length->a.block<w.heap.size) :
  Calls prog 80 #[.slice A bs.length c] w λe w'=>
   ∃u,e=.returned u/\w'.ownsRow w.heap.size 3 1 u (8*bs.length) (aM (am.bitsOf (bd bs) (8*bs.length)))/\av w w':=by
 obtain⟨i0,ay,bC,bL,bz⟩:=info_parts WB;have hcells:∀k,(hk:k<bs.length)->∃g off,A=some ⟨g,off,none⟩/\g<w.heap.size/\w.cell? ⟨g,off+k,none⟩=some (.int .u8 ((bs[k]:Nat):Int)):=by
  intro k hk;obtain⟨g,off,e,hc⟩:=m9 aj (by intro h;rw[h]at hk;simp at hk);exact⟨g,off,e,hA _ e (by omega),hc k hk⟩
 have sT:=I hcells;have qy:=I cs;clear hcells aj hA cs;go_enter func80,ntmps80
 go_wp2;go_loopw [3,4] (λu i wr=>∃k:Nat,k<=bs.length/\i=.int .i64 k/\wr.ownsRow w.heap.size 3 1 u (8*k) (aM (am.bitsOf (bd (bs.take k)) (8*k)))/\av w wr) (λ_ i _=>bs.length-(intOf i).toNat)
 case atStart=>exact⟨0,zero_le _,rfl,World.ownsRow_nil _ _ _ _,Below.refl _ _⟩
 case round=>
  obtain⟨k,hk,rfl,hown,hbel⟩:=hrel;by_cases au:k<bs.length
  .obtain⟨g,off,rfl,aF,hW⟩:=sT.out k au;have hc:wr.cell? ⟨g,off+k,none⟩=some (.int .u8 ((bs[k]:Nat):Int)):=(hbel.cell (p:=⟨g,off+k,none⟩) aF).trans hW;have k3:=qy.out bs[k] (b8 au);have hstep:=afy (bs.take k) bs[k] (λx ai=>qy.out x (mem_of_mem_take ai)) k3;rw[cr,Nat.min_eq_left (Nat.le_of_lt au),<-fY au]at hstep;have kD:=I hstep;clear hW hstep;generalize bs[k]=x at hc k3 kD;go_wp2_with fail
   refine(ap5 x _ (by omega)).mono ?_;rintro e aw ⟨gN,rfl,hu,aH,_⟩;obtain⟨g1,zU,hform,_,_⟩:=Hj hu (by omega);have hnews:∀j q,(aM (am.bitsOf x 8))[j]?=some q->aw.cell? ((⟨g1,0,none⟩:Addr).add j)=some q:=hu.cells (by rw[hform];rfl);have hown1:=own_below hown aH;rw[hform];have Gk:av w aw:=hbel.trans (aH.mono hbel.size);clear hform hu hown hbel hc;go_wp2_with (at_builtin;refine wpList_append_own _ rfl _ _ 112 rfl w.heap.size 3 i0 (.int .i64 0) 1 8 underlying112 ay bC bL bz rfl (by decide) _ _ _ rfl hown1 ⟨g1,0,none⟩ 8 zU (aM (am.bitsOf x 8)) rfl ?c0 hnews ?c2 ?c3 ?c4 ?c5 ?_)
   case c0=>simp[gm,gV]
   case c2=>intro u hu;simp[aM]at hu;obtain⟨a,_,rfl⟩:=hu;rfl
   case c3=>unfold maxLen;omega
   case c4=>omega
   case c5=>exact Gk.size
   intro u2 aC hown' hgrow _;rw[DJ,kD.out,show 8*k+8=8*(k+1) by omega]at hown';have hV:av w aC:=Gk.grown hgrow Gk.size (λq hq=>(hown1.lt q hq).1);have iR:=I hown';have b5:=I hV;clear hown' hV hgrow hown1 Gk hnews;go_wp2;go_roundw
   case rel=>exact⟨k+1,by omega,by go_num,iR.out,b5.out⟩
   case measure=>simp[intOf];omega
  .obtain rfl:k=bs.length:=by omega
   rw[take_length]at hown;go_wp2;go_ret;exact⟨_,rfl,hown,hbel⟩
theorem apd(A:a7)(n c:Nat)(bs:ae)(w:ah)(hl:bs.length=n)(aA:n<=100000)(cs:∀b∈bs,b<256)(aj:Reads w A (aO bs))(hA:∀a,A=some a->0<n->a.block<w.heap.size) :
  Calls prog 80 #[.slice A n c] w λe w'=>
   ∃u,e=.returned u/\w'.ownsRow w.heap.size 3 1 u (8*n) (aM (am.bitsOf (bd bs) (8*n)))/\av w w':=by
 subst hl;exact Hv A c bs w aA cs aj hA
theorem amZ(v n:Nat)(aD:v<2^64)(aA:n<64):bits .and .u64 (v:Int) (IntKind.u64.wrap (IntKind.u64.wrap (2^n)-1))=((v%2^n:Nat):Int):=by
 have ax:2^n<2^64:=Nat.pow_lt_pow_right (by omega) aA;have e:((2:Int)^n)=((2^n:Nat):Int):=by simp
 have hpos:=eK n;rw[e,Bf _ ax,show((2^n:Nat):Int)-1=((2^n-1:Nat):Int) by omega,Bf _ (by omega),u64_and_nat _ _ aD (by omega),and_two_pow_sub_one_eq_mod]
theorem Nr(v n:Nat)(w:ah)(aD:v<2^64)(aA:n<64) :
  Calls prog 131 #[.int .u64 v,.int .i64 n] w λe w'=>e=.returned (.int .u64 ((v%2^n:Nat):Int))/\w=w':=by
 have hm:=amZ v n aD aA;have cj:=I hm;clear hm aD;go_enter func131,ntmps131
 go_wp2;go_ret;exact⟨congrArg Ending.returned (congrArg (Value.int .u64) cj),rfl⟩
theorem W5(b off:Nat)(n:Int)(w:ah)(h:w.cell? ⟨b,off+2,none⟩=some (.int .i64 n)) :
  Calls prog 217 #[.pointer (some ⟨b,off,none⟩)] w λe w'=>e=.returned (.int .i64 n)/\w=w':=by
 go_enter func217,ntmps217
 go_wp2;go_ret;exact⟨rfl,rfl⟩
theorem amb(b off:Nat)(s:ByteArray)(n:Nat)(w:ah)(ap:s.size<=1000000000)(aA:n<=8*s.size)(ao:w.cell? ⟨b,off,none⟩=some (.string s))(h:w.cell? ⟨b,off+1,none⟩=some (.int .i64 n)) :
  Calls prog 188 #[.pointer (some ⟨b,off,none⟩)] w λe w'=>e=.returned (.int .i64 ((8*s.size-n:Nat):Int))/\∃k,w'=w.drewN k:=by
 have ai:(8*(s.size:Int)-n)=((8*s.size-n:Nat):Int):=by omega
 have cc:=I ai;clear ai;go_enter func188,ntmps188
 go_wp2;go_quiet (fail)
 go_wp2;go_ret;exact⟨congrArg Ending.returned (congrArg (Value.int .i64) cc),_,rfl⟩
theorem GV(b off:Nat)(bs:ae)(n:Nat)(w:ah)(ap:bs.length<=1000000000)(aA:n<=8*bs.length)(h:er w b off bs n) :
  Calls prog 188 #[.pointer (some ⟨b,off,none⟩)] w λe w'=>e=.returned (.int .i64 ((8*bs.length-n:Nat):Int))/\∃k,w'=w.drewN k:=by
 have h1:=amb b off (strOf bs) n w (by rw[cy];exact ap) (by rw[cy];exact aA) h.1 h.2.1;rw[cy]at h1;exact h1
theorem atB{w:ah}{b off N n rest v m:Nat}{p:a7}{us:ae}(hlow:n%64+m<64)
  (ao:w.cell? ⟨b,off,none⟩=some (.pointer p))(h1:w.cell? ⟨b,off+1,none⟩=some (.int .u64 rest))(af:w.cell? ⟨b,off+2,none⟩=some (.int .i64 n))
  (f0:w.frozen? ⟨b,off,none⟩=false)(f1:w.frozen? ⟨b,off+1,none⟩=false)(f2:w.frozen? ⟨b,off+2,none⟩=false)(aA:kW w b 192)(hc:Chain w p us)(hw:mL N n rest us) :
  dL ((w.setCell ⟨b,off+1,none⟩ (.int .u64 ((rest ||| v%2^m*2^(n%64)%2^64:Nat):Int))).setCell ⟨b,off+2,none⟩ (.int .i64 ((n+m:Nat):Int))) b off (N+v%2^m*2^n) (n+m) /\
   w.grownBy ((w.setCell ⟨b,off+1,none⟩ (.int .u64 ((rest ||| v%2^m*2^(n%64)%2^64:Nat):Int))).setCell ⟨b,off+2,none⟩ (.int .i64 ((n+m:Nat):Int))) (some b):=by
 have aF:w.grownBy ((w.setCell ⟨b,off+1,none⟩ (.int .u64 ((rest ||| v%2^m*2^(n%64)%2^64:Nat):Int))).setCell ⟨b,off+2,none⟩ (.int .i64 ((n+m:Nat):Int))) (some b):=
  ho (ho (dg _ _) _ _) _ _
 refine⟨⟨p,_,us,?_,?_,?_,?_,?_,?_,(aA.setCell _ _).setCell _ _,hc.keep (Pn aF (λg e=>by injection e with e;subst e;exact aA)),hw.Oc v m hlow⟩,aF⟩
 .rw[World.cell?_setCell_other _ _ _ _ (by intro e;injection e with _ e _;omega),World.cell?_setCell_other _ _ _ _ (by intro e;injection e with _ e _;omega)];exact ao
 .rw[World.cell?_setCell_other _ _ _ _ (by intro e;injection e with _ e _;omega),World.cell?_setCell_same _ _ _ h1]
 .rw[World.cell?_setCell_same _ _ _ (show _=some (.int .i64 n)from by rw[World.cell?_setCell_other _ _ _ _ (by intro e;injection e with _ e _;omega)];exact af)]
 .simpa using f0
 .simpa using f1
 .simpa using f2
theorem Oc(b off N n:Nat)(v m:Nat)(w:ah)(aA:n<=1000000000)(aD:v<4294967296)(hm:m<=32)(hlow:n%64+m<64)(h:dL w b off N n) :
  Calls prog 99 #[.pointer (some ⟨b,off,none⟩),.int .u32 v,.int .i64 m] w λe w'=>e=.returned (.bool true)/\dL w' b off (N+v%2^m*2^n) (n+m)/\w.grownBy w' (some b):=by
 obtain⟨p,rest,us,ao,h1,af,f0,f1,f2,wH,hc,hw⟩:=h;have aQ:=atB (v:=v) (m:=m) hlow ao h1 af f0 f1 f2 wH hc hw;have jM:=I aQ;have b9:=or_val rest (v%2^m) (n%64) hw.Yy;have BW:=I b9;clear aQ b9 hc hw wH f0;go_enter func99,ntmps99
 go_wp2_with fail
 refine(Nr v m _ (by omega) (by omega)).mono ?_;rintro e w' ⟨rfl,rfl⟩;go_wp2;go_region
 all_goals go_wp2
 go_ret;rw[Xq,BW.out,<-Int.natCast_add];exact⟨rfl,jM.out.1.drew,ns jM.out.2⟩
def Da(w:ah)(b off n rest x m:Nat)(p:a7):ah:=
 ((((w.setCell ⟨b,off+1,none⟩ (.int .u64 ((rest ||| x*2^(n%64)%2^64:Nat):Int))).setCell ⟨b,off+2,none⟩ (.int .i64 ((n+m:Nat):Int))).setCell ⟨b,off,none⟩ (.pointer (some ⟨w.heap.size,0,none⟩))).setCell
  ⟨b,off+1,none⟩ (.int .u64 ((x/2^(64-n%64):Nat):Int))).alloc (.cells #[.pointer p,.int .u64 ((rest ||| x*2^(n%64)%2^64:Nat):Int)] 192)
theorem atA{w:ah}{b off N n rest v m:Nat}{p:a7}{us:ae}(hm:m<=32)(fj:64<=n%64+m)
  (ao:w.cell? ⟨b,off,none⟩=some (.pointer p))(h1:w.cell? ⟨b,off+1,none⟩=some (.int .u64 rest))(af:w.cell? ⟨b,off+2,none⟩=some (.int .i64 n))
  (f0:w.frozen? ⟨b,off,none⟩=false)(f1:w.frozen? ⟨b,off+1,none⟩=false)(f2:w.frozen? ⟨b,off+2,none⟩=false)(aA:kW w b 192)(hc:Chain w p us)(hw:mL N n rest us) :
  dL (Da w b off n rest (v%2^m) m p) b off (N+v%2^m*2^n) (n+m)/\w.grownBy (Da w b off n rest (v%2^m) m p) (some b):=by
 have hJ:w.grownBy ((((w.setCell ⟨b,off+1,none⟩ (.int .u64 ((rest ||| v%2^m*2^(n%64)%2^64:Nat):Int))).setCell ⟨b,off+2,none⟩ (.int .i64 ((n+m:Nat):Int))).setCell ⟨b,off,none⟩
   (.pointer (some ⟨w.heap.size,0,none⟩))).setCell ⟨b,off+1,none⟩ (.int .u64 ((v%2^m/2^(64-n%64):Nat):Int))) (some b):=ho (ho (ho (ho (dg _ _) _ _) _ _) _ _) _ _
 have qh:((((w.setCell ⟨b,off+1,none⟩ (.int .u64 ((rest ||| v%2^m*2^(n%64)%2^64:Nat):Int))).setCell ⟨b,off+2,none⟩ (.int .i64 ((n+m:Nat):Int))).setCell ⟨b,off,none⟩
   (.pointer (some ⟨w.heap.size,0,none⟩))).setCell ⟨b,off+1,none⟩ (.int .u64 ((v%2^m/2^(64-n%64):Nat):Int))).heap.size=w.heap.size:=by simp
 have aF:w.grownBy (Da w b off n rest (v%2^m) m p) (some b):=im hJ _;have ak:=aA.lt;have hrow:Row (Da w b off n rest (v%2^m) m p) w.heap.size 192 [.pointer p,.int .u64 ((rest ||| v%2^m*2^(n%64)%2^64:Nat):Int)]:=by
  have:=Row.new ((((w.setCell ⟨b,off+1,none⟩ (.int .u64 ((rest ||| v%2^m*2^(n%64)%2^64:Nat):Int))).setCell ⟨b,off+2,none⟩ (.int .i64 ((n+m:Nat):Int))).setCell ⟨b,off,none⟩
   (.pointer (some ⟨w.heap.size,0,none⟩))).setCell ⟨b,off+1,none⟩ (.int .u64 ((v%2^m/2^(64-n%64):Nat):Int))) 192 [.pointer p,.int .u64 ((rest ||| v%2^m*2^(n%64)%2^64:Nat):Int)]
  rw[qh]at this;exact this
 have ND:(⟨b,off+1,none⟩:Addr)≠⟨b,off,none⟩:=by intro e;injection e with _ e _;omega
 have Xs:(⟨b,off+2,none⟩:Addr)≠⟨b,off,none⟩:=by intro e;injection e with _ e _;omega
 have NE:(⟨b,off+2,none⟩:Addr)≠⟨b,off+1,none⟩:=by intro e;injection e with _ e _;omega
 refine⟨⟨some ⟨w.heap.size,0,none⟩,_,_::us,?_,?_,?_,?_,?_,?_,((((aA.setCell _ _).setCell _ _).setCell _ _).setCell _ _).alloc _,⟨_,p,rfl,hrow,hc.keep (Pn aF (λg e=>by injection e with e;subst e;exact aA))⟩,hw.Ob v m hm fj⟩,aF⟩ <;>
  unfold Da
 .rw[World.cell?_alloc_lt _ _ _ (by simpa using ak),World.cell?_setCell_other _ _ _ _ ND];exact World.cell?_setCell_same _ _ _ (u:=.pointer p) (by rw[World.cell?_setCell_other _ _ _ _ Xs,World.cell?_setCell_other _ _ _ _ ND];exact ao)
 .rw[World.cell?_alloc_lt _ _ _ (by simpa using ak)];exact World.cell?_setCell_same _ _ _ (u:=.int .u64 ((rest ||| v%2^m*2^(n%64)%2^64:Nat):Int)) (by
   rw[World.cell?_setCell_other _ _ _ _ ND.symm,World.cell?_setCell_other _ _ _ _ NE];exact World.cell?_setCell_same _ _ _ h1)
 .rw[World.cell?_alloc_lt _ _ _ (by simpa using ak),World.cell?_setCell_other _ _ _ _ NE.symm,World.cell?_setCell_other _ _ _ _ Xs.symm];exact World.cell?_setCell_same _ _ _ (u:=.int .i64 n) (by rw[World.cell?_setCell_other _ _ _ _ NE.symm];exact af)
 .rw[World.frozen?_alloc_past _ _ _ (by simpa using ak)];simpa using f0
 .rw[World.frozen?_alloc_past _ _ _ (by simpa using ak)];simpa using f1
 .rw[World.frozen?_alloc_past _ _ _ (by simpa using ak)];simpa using f2
theorem Ob(b off N n:Nat)(v m:Nat)(w:ah)(aA:n<=1000000000)(aD:v<4294967296)(hm:m<=32)(fj:64<=n%64+m)(h:dL w b off N n) :
  Calls prog 99 #[.pointer (some ⟨b,off,none⟩),.int .u32 v,.int .i64 m] w λe w'=>e=.returned (.bool true)/\dL w' b off (N+v%2^m*2^n) (n+m)/\w.grownBy w' (some b):=by
 obtain⟨p,rest,us,ao,h1,af,f0,f1,f2,wH,hc,hw⟩:=h;have aQ:=atA (v:=v) (m:=m) hm fj ao h1 af f0 f1 f2 wH hc hw;have jM:=I aQ;have b9:=or_val rest (v%2^m) (n%64) hw.Yy;have BW:=I b9;have ak:=wH.lt;have aI:((v%2^m:Nat):Int)/2^(64-n%64)=((v%2^m/2^(64-n%64):Nat):Int):=by simp
 have fC:=I aI;clear aQ b9 hc hw wH aI;go_enter func99,ntmps99
 go_wp2_with fail
 refine(Nr v m _ (by omega) (by omega)).mono ?_;rintro e w' ⟨rfl,rfl⟩;go_wp2;go_region
 all_goals go_wp2
 go_region
 all_goals go_wp2
 go_ret;rw[Xq,BW.out,fC.out,<-Int.natCast_add];exact⟨rfl,jM.out.1.drew.drew,ns (ns jM.out.2)⟩
theorem D8(b off N n:Nat)(v m:Nat)(w:ah)(aA:n<=1000000000)(aD:v<4294967296)(hm:m<=32)(h:dL w b off N n) :
  Calls prog 99 #[.pointer (some ⟨b,off,none⟩),.int .u32 v,.int .i64 m] w λe w'=>e=.returned (.bool true)/\dL w' b off (N+v%2^m*2^n) (n+m)/\w.grownBy w' (some b):=by
 by_cases hl:n%64+m<64
 .exact Oc b off N n v m w aA aD hm hl h
 .exact Ob b off N n v m w aA aD hm (by omega) h
theorem ahY(A:a7)(c:Nat)(v:Int)(w:ah) :
  Calls prog 132 #[.slice A 0 c,.int .u64 v] w λe w'=>e=.returned (.tuple #[])/\w=w':=by
 go_enter func132,ntmps132
 go_wp2;go_loop [8] (λi=>i=.int .i64 0) (λ_=>0)
 case atStart=>rfl
 case round=>
  obtain rfl:=hrel;go_wp2;go_end0
  exact⟨rfl,rfl⟩
theorem aqb{w:ah}{g off k v:Nat}{ag:ae}(hl:off+k<ag.length)(h:Row w g 5 (aO (h6 ag off k v))) :
  Row (w.setCell ⟨g,off+k,none⟩ (.int .u8 ((v/256^k%256:Nat):Int))) g 5 (aO (h6 ag off (k+1) v)):=by
 have h1:=h.bq (off+k) (.int .u8 ((v/256^k%256:Nat):Int));rw[Bg,Ss _ _ _ _ hl]at h1;exact h1
theorem Sv(g off len c v:Nat)(ag:ae)(w:ah)(hl:off+len<=ag.length)(hz:ag.length<=1000000000)(aj:Row w g 5 (aO ag)) :
  Calls prog 132 #[.slice (some ⟨g,off,none⟩) len c,.int .u64 v] w λe w'=>e=.returned (.tuple #[])/\Row w' g 5 (aO (h6 ag off (min len 8) v))/\w.grownBy w' (some g):=by
 obtain⟨m,hm⟩:∃m,m=min len 8:=⟨_,rfl⟩;have UK:m<=8:=by omega
 have L8:m<=len:=by omega
 have hmin:Hid ((min (len:Int) 8)=(m:Int)):=by unfold Hid;omega
 rw[<-hm];clear hm;go_enter func132,ntmps132
 go_wp2;rw[hmin.out];go_loopw [8] (λi wr=>∃k:Nat,k<=m/\i=.int .i64 k/\Row wr g 5 (aO (h6 ag off k v))/\w.grownBy wr (some g)) (λi _=>m-(intOf i).toNat)
 case atStart=>exact⟨0,zero_le _,rfl,by rw[St];exact aj,dg _ _⟩
 case round=>
  obtain⟨k,hk,rfl,hrow,cP⟩:=hrel;by_cases au:k<m
  .have hcell:=hrow.cell (off+k);have hfree:=hrow.free (off+k);have hlen:off+k<(h6 ag off k v).length:=by rw[Sr _ _ _ _ (by omega)];omega
   rw[jq _ _ hlen]at hcell;generalize (h6 ag off k v)[off+k]=old at hcell;have dr:=I hrow;have kS:=I cP;clear hrow cP hlen aj;go_wp2;rw[Rr];go_roundw
   case rel=>exact⟨k+1,by omega,by go_num,aqb (by omega) dr.out,ho kS.out _ _⟩
   case measure=>simp[intOf];omega
  .obtain rfl:k=m:=by omega
   go_wp2;go_end0
   exact⟨rfl,hrow,cP⟩
theorem Y5(g L q:Nat)(W:ah)(h:q<L)(_hL:L<=1000000000):(Instr.slice 87 (.slice (some ⟨g,0,none⟩) L L) (some (.int .i64 q)) none none).run prog W=.ok (.slice (some ⟨g,q,none⟩) (L-q) (L-q)) W:=by
 have h1:¬L=q:=by omega
 have af:q<=L:=by omega
 go_simp
theorem arc(g L q:Nat)(W:ah)(h:q=L):(Instr.slice 87 (.slice (some ⟨g,0,none⟩) L L) (some (.int .i64 q)) none none).run prog W=.ok (.slice (some ⟨g,0,none⟩) 0 0) W:=by
 subst h;go_simp
theorem ahX(g q c v:Nat)(w:ah)(aj:Row w g 5 (aO (List.replicate q 0))) :
  Calls prog 132 #[.slice (some ⟨g,0,none⟩) 0 c,.int .u64 v] w λe w'=>e=.returned (.tuple #[])/\Row w' g 5 (aO (h6 (List.replicate q 0) q (min (q-q) 8) v))/\w.grownBy w' (some g):=
 (ahY _ c v w).mono λe w' ⟨he,hw⟩=>by
  subst hw;refine⟨he,?_,dg _ _⟩;rw[Nat.sub_self,show min 0 8=0 from rfl,St];exact aj
theorem agi{N n rest q L:Nat}{us:ae}(h:mL N n rest us)(hq:q=8*(n/64))(bR:L=(n+7)/8) :
  h6 (List.replicate L 0) q (min (L-q) 8) rest=List.replicate q 0++(am.bytesOf N L).drop q:=by
 have h1:=agh N n rest us h;rw[h.1]at h1;rw[hq,bR];exact h1
theorem zT(b off N n:Nat)(w:ah)(aA:n<=1000000000)(h:dL w b off N n) :
  Calls prog 100 #[.pointer (some ⟨b,off,none⟩)] w λe w'=>∃g,e=.returned (.slice (some ⟨g,0,none⟩) ((n+7)/8) ((n+7)/8))/\w.heap.size<=g/\Row w' g 5 (aO (am.bytesOf N ((n+7)/8)))/\av w w':=by
 obtain⟨i0,ay,bC,bL,bz⟩:=info_parts ob;have kB:=I h;obtain⟨p,rest,us,ao,h1,af,f0,f1,f2,wH,hc,hw⟩:=h;have gO:=I hc;have fm:=I hw;clear f0 f1 f2 wH hc hw;go_enter func100,ntmps100
 go_wp2_with (at_make;refine wpList_make_full _ rfl _ _ 87 rfl w.heap.size 5 i0 (.int .u8 0) 1 underlying87 ay bC bL .i64 .i64 _ _ ((n+7)/8) rfl rfl ?c1 ?c1 ?c2 ?c3 ?c4 ?_)
 case c1=>omega
 case c2=>rw[bz];omega
 case c3=>unfold maxLen;omega
 case c4=>exact Nat.le_refl _
 intro aw hown1 a1;have aH:=kZ a1;have PL:=I (kB.out.keep a1 (by simp) (by simp));have cg:Row aw w.heap.size 5 (aO (List.replicate ((n+7)/8) 0)):=Ef hown1;have d1:aw.cell? ⟨b,off+1,none⟩=some (.int .u64 rest):=(aH.cell (p:=⟨b,off+1,none⟩) (World.block_lt_of_cell? w _ h1)).trans h1;have d2:aw.cell? ⟨b,off+2,none⟩=some (.int .i64 n):=(aH.cell (p:=⟨b,off+2,none⟩) (World.block_lt_of_cell? w _ af)).trans af;have aN:=I aH;have fw:=I cg;have lE:=I ao;clear hown1 a1 aH cg ao h1 af;obtain⟨q,hq⟩:∃q,q=8*(n/64):=⟨_,rfl⟩;obtain⟨L,bR⟩:∃L,L=(n+7)/8:=⟨_,rfl⟩;have akq:q<=L:=by omega
 have akr:L<=q+8:=by omega
 have Ga:L<=1000000000:=by omega
 have Us:(n:Int)/64*8=(q:Int):=by omega
 have jt:=I hq;have acJ:=I Us;have o9:=I bR;clear hq Us bR;go_wp2;rw[acJ.out,<-o9.out];rw[<-o9.out]at fw;have hpost:∀aC,Row aC w.heap.size 5 (aO (h6 (List.replicate L 0) q (min (L-q) 8) rest))->Row aC w.heap.size 5 (aO (List.replicate q 0++(am.bytesOf N L).drop q)):=
  λaC h=>by rw[<-agi fm.out jt.out o9.out];exact h
 have xA:=I hpost;clear hpost;by_cases au:q=L
 all_goals first
 |(
    have MA:=λW=>arc w.heap.size L q W au
    have ce:=I au;clear au;go_still_tail 7,(by kernel_rfl)
    change wpList _ _ _ _ _ aw.drew;clear MA;go_wp2_with fail
    refine(ahX w.heap.size q _ rest aw.drew (by rw[ce.out];exact fw)).mono ?_;rintro e aC ⟨rfl,hrow,cP⟩;rw[show h6 (List.replicate q 0) q (min (q-q) 8) rest=h6 (List.replicate L 0) q (min (L-q) 8) rest by rw[<-ce.out]]at hrow;clear ce)
 |(
    have hlt2:q<L:=by omega
    have Dx:=λW=>Y5 w.heap.size L q W hlt2 Ga
    go_still_tail 7,(by kernel_rfl)
    change wpList _ _ _ _ _ aw.drew;clear Dx;go_wp2_with fail
    refine(Sv w.heap.size q (L-q) _ rest (List.replicate L 0) aw.drew (by simp;omega) (by simpa using Ga) fw.out).mono ?_;rintro e aC ⟨rfl,hrow,cP⟩;clear au hlt2)
 all_goals
  have hrow2:=xA.out aC hrow;have aJ:av w aC:=aN.out.drew.grown cP (by have:=aN.out.size;simpa using this) (λk e=>by injection e with e;omega);have ag7:aC.cell? ⟨b,off,none⟩=some (.pointer p):=(aJ.cell (p:=⟨b,off,none⟩) (World.block_lt_of_cell? w _ lE)).trans lE.out;have tw:q=8*us.length:=by rw[fm.out.1];exact jt.out
  rw[show(q:Int)=((8*us.length:Nat):Int) by rw[tw]];rw[tw]at hrow2;have V4:8*us.length<=L:=by omega
  have hi:=I hrow2;have bm:=I aJ;clear hrow2 aJ cP hrow d1 d2 akq akr tw;go_wp2;go_loopw [4,5] (λi p' wr=>∃(rem:ae) (vo:a7),i=.int .i64 ((8*rem.length:Nat):Int)/\p'=.pointer vo/\Hid (Chain w vo rem)/\Hid (Row wr w.heap.size 5 (aO (List.replicate (8*rem.length) 0++(am.bytesOf N L).drop (8*rem.length)))) /\
   Hid (av w wr)/\Hid (p6 rem=N%2^(64*rem.length))/\Hid (∀u∈rem,u<2^64)/\8*rem.length<=L) (λi _ _=>(intOf i).toNat)
  case atStart=>exact⟨us,p,rfl,rfl,gO,hi,bm,fm.out.chain,fm.out.2.2.1,V4⟩
  case round=>
   obtain⟨rem,vo,rfl,rfl,r0,yJ,eu,hcv,UI,hle⟩:=hrel;clear V4 ag7;rcases rem with _|⟨u,sI⟩
   .obtain rfl:vo=none:=r0.out;have hfin:Row wr w.heap.size 5 (aO (am.bytesOf N L)):=yJ.out;rw[o9.out]at hfin;have fe:=I hfin;clear hfin yJ hle;go_wp2;go_ret;rw[o9.out];exact⟨_,rfl,Nat.le_refl _,fe,eu⟩
   .obtain⟨g1,gp,rfl,cg,C5⟩:=r0.out;obtain⟨r,aj⟩:∃r,r=8*sI.length:=⟨_,rfl⟩;have a1:=cg.lt;have c0:=(eu.out.cell (p:=⟨g1,0,none⟩) a1).trans (cg.cell 0);have c1:=(eu.out.cell (p:=⟨g1,1,none⟩) a1).trans (cg.cell 1);simp only[dH,dJ]at c0 c1;have IH:=I C5;rw[bY,show((8*(sI.length+1):Nat):Int)=r+8 by omega];rw[bY]at yJ hcv hle;have akt:r<L:=by omega
    have vb:r+8<=L:=by omega
    have bj:=I aj;have Dx:=λW=>Y5 w.heap.size L r W akt Ga
    have hhead:=agw N u sI (λx ai=>UI.out x (eo _ ai)) hcv.out;have hcs:(List.replicate (8*(sI.length+1)) 0++(am.bytesOf N L).drop (8*(sI.length+1))).length=L:=by
     rw[aY,iZ,cB,am.bytesOf_length];omega
    have lr:∀a6,Row a6 w.heap.size 5 (aO (h6 (List.replicate (8*(sI.length+1)) 0++(am.bytesOf N L).drop (8*(sI.length+1))) r (min (L-r) 8) u)) ->
      Row a6 w.heap.size 5 (aO (List.replicate (8*sI.length) 0++(am.bytesOf N L).drop (8*sI.length))):=λa6 aq=>by
     have e:=agj N L sI.length (by omega);rw[<-hhead.1,<-aj,show 8=min (L-r) 8 by omega]at e;rw[show min (L-r) 8=8 by omega]at aq;rw[show min (L-r) 8=8 by omega,aj]at e;rw[<-e,<-aj];exact aq
    have zo:=I lr;have xp:=I hcs;have nP:=I hhead.2;clear aj C5 cg r0 hle lr hcs hhead hcv;go_wp2;go_still_tail 7,(by kernel_rfl)
    change wpList _ _ _ _ _ wr.drew;clear Dx;go_wp2_with fail
    refine(Sv w.heap.size r (L-r) _ u _ wr.drew (by rw[xp.out];omega) (by rw[xp.out];exact Ga) yJ).mono ?_;rintro e a6 ⟨rfl,hrow3,Uh⟩;have kU:=I (zo.out a6 hrow3);have bA:av w a6:=eu.out.drew.grown Uh (by have:=eu.out.size;simpa using this) (λk e=>by injection e with e;omega);have auk:a6.cell? ⟨g1,0,none⟩=some (.pointer gp):=(bA.cell (p:=⟨g1,0,none⟩) a1).trans ((eu.out.cell (p:=⟨g1,0,none⟩) a1).symm.trans c0);have b6:=I bA;clear bA hrow3 Uh c0 c1 yJ;go_wp2;go_roundw
    case rel=>exact⟨sI,gp,by rw[bj.out],rfl,IH,kU,b6,nP,λx ai=>UI.out x (eo _ ai),by have:=bj.out;omega⟩
    case measure=>simp[intOf];omega
theorem D0(A:a7)(c:Nat)(bs:ae)(w:ah)(cs:∀b∈bs,b<256)(aj:Reads w A (aO bs)) :
  Calls prog 148 #[.slice A bs.length c] w λe w'=>e=.returned (.pointer (some ⟨w.heap.size,0,none⟩))/\er w' w.heap.size 0 bs 0/\av w w':=by
 have dS:=oL w A c bs cs aj;clear cs aj;go_enter func148,ntmps148
 go_wp2;go_ret;have hrow:=Row.new w 243 [.string (strOf bs),.int .i64 0];exact⟨rfl,⟨hrow.cell 0,hrow.cell 1,hrow.free 1,hrow.lt⟩,dM.alloc bl _⟩
theorem ZN(a:Addr)(m:Int)(w:ah)(h:m<0\/32<m) :
  Calls prog 177 #[.pointer (some a),.int .i64 m] w λe w'=>e=.returned (.tuple #[.int .u32 0,.bool false])/\w=w':=by
 rcases h with h|h
 .go_enter func177,ntmps177
  go_wp2;go_ret2;exact⟨rfl,rfl⟩
 .go_enter func177,ntmps177
  go_wp2;go_ret2;exact⟨rfl,rfl⟩
theorem Eu(b off:Nat)(bs:ae)(pos m:Nat)(w:ah)(ap:bs.length<=100000000)(ax:pos<=8*bs.length)(hm:m<=32)(lq:8*bs.length-pos<m)(h:er w b off bs pos) :
  Calls prog 177 #[.pointer (some ⟨b,off,none⟩),.int .i64 m] w λe w'=>e=.returned (.tuple #[.int .u32 0,.bool false])/\∃k,w'=w.drewN k:=by
 have hl:=GV b off bs pos w (by omega) ax h;have gj:=I hl;clear hl h;generalize 8*bs.length-pos=Nl at gj lq;have au:(Nl:Int)<m:=by omega
 go_enter func177,ntmps177
 go_wp2_with fail
 refine gj.out.mono ?_;rintro e w' ⟨rfl,dD,rfl⟩;go_wp2;go_ret2;exact⟨rfl,_,rfl⟩
theorem anI(x b k:Nat)(ai:x<256^k)(ak:b<256)(hk:k<5):bits .or .u64 (x:Int) (IntKind.u64.wrap ((b:Int)*2^(8*k)))=((x+b*256^k:Nat):Int):=by
 have ax:256^k<=256^4:=dy (by omega) (by omega);have aK:(256:Nat)^4=4294967296:=by decide
 rw[or_val _ _ _ (by omega)];have h1:=yV (8*k) x b (by rw[<-h0];exact ai);have af:b*2^(8*k)<2^64:=by
  rw[<-h0];have:=Nat.mul_le_mul (show b<=255 by omega) ax;omega
 rw[mod_eq_of_lt af,h1,h0]
theorem asb(bs:ae)(f k:Nat)(LP:f<=k)(hk:k<bs.length)(aT:k<f+5)(h:∀x∈bs,x<256) :
  bits .or .u64 ((bd ((bs.drop f).take (k-f)):Nat):Int) (IntKind.u64.wrap ((bs[k]:Int)*2^(8*(k-f))))=((bd ((bs.drop f).take (k+1-f)):Nat):Int):=by
 have hl:((bs.drop f).take (k-f)).length=k-f:=by rw[cr,cB];omega
 have au:=o4 ((bs.drop f).take (k-f)) (λx ai=>h x (mem_of_mem_drop (mem_of_mem_take ai)));rw[hl]at au;rw[anI _ _ _ au (h _ (b8 hk)) (by omega)];have aF:k-f<(bs.drop f).length:=by rw[cB];omega
 have e:(bs.drop f)[k-f]=bs[k]:=by rw[getElem_drop];congr 1;omega
 rw[show k+1-f=(k-f)+1 by omega,fY aF,EA,hl,e]
theorem aqk{w:ah}{b off pos:Nat}{bs:ae}(h:er w b off bs pos)(dD m:Nat):er ((w.setCell ⟨b,off+1,none⟩ (.int .i64 ((pos+m:Nat):Int))).drewN dD) b off bs (pos+m):=by
 have h1:er (w.setCell ⟨b,off+1,none⟩ (.int .i64 ((pos+m:Nat):Int))) b off bs (pos+m):=by
  obtain⟨ao,h1,af,aq⟩:=h;refine⟨?_,World.cell?_setCell_same _ _ _ h1,by simpa using af,by simpa using aq⟩;rw[World.cell?_setCell_other _ _ _ _ (by intro e;injection e with _ e _;omega)];exact ao
 exact h1.drewN dD
theorem tO(b off:Nat)(bs:ae)(pos m:Nat)(w:ah)(ap:bs.length<=100000000)(cs:∀x∈bs,x<256)(hm:m<=32)(hle:pos+m<=8*bs.length)(h:er w b off bs pos) :
  Calls prog 177 #[.pointer (some ⟨b,off,none⟩),.int .i64 m] w λe w'=>
   e=.returned (.tuple #[.int .u32 ((bd bs/2^pos%2^m:Nat):Int),.bool true])/\er w' b off bs (pos+m)/\w.grownBy w' (some b):=by
 have hl:=GV b off bs pos w (by omega) (by omega) h;have gj:=I hl;have oE:=I h;obtain⟨ao,h1,af,_⟩:=h;have au:(m:Int)<=((8*bs.length-pos:Nat):Int):=by omega
 have bB:=cy bs;have qy:=I cs;have hidx:∀(i:Nat) (W:ah) (ay:i<bs.length),(Instr.index 9 (.string (strOf bs)) (.int .i64 i)).run prog W=.ok (.int .u8 ((bs[i]:Nat):Int)) W:=λi W ay=>pE bs i W ay (cs _ (b8 ay))
 have kC:=I hidx;have fS:=I bB;clear hl cs hidx bB;generalize strOf bs=w2 at ao kC fS;have Mz:w2.size<=100000000:=by rw[fS.out];exact ap
 generalize Aw:8*bs.length-pos=Nl at gj au;have Qf:=I Aw;clear Aw;go_enter func177,ntmps177
 go_wp2_with fail
 refine gj.out.mono ?_;rintro e w' ⟨rfl,dD,rfl⟩;have hlt2:¬Nl<m:=by omega
 obtain⟨f,aL⟩:∃f,f=pos/8:=⟨_,rfl⟩;obtain⟨t,aE⟩:∃t,t=f+min 5 (bs.length-f):=⟨_,rfl⟩;have yd:(pos:Int)/8=(f:Int):=by omega
 have ku:min ((f:Int)+5) (w2.size:Int)=t:=by rw[fS.out];omega
 have e1:t<=bs.length:=by omega
 have VX:t<=f+5:=by omega
 have gY:f<=t:=by omega
 have br:=I aL;have fK:=I aE;have IY:=I yd;have lJ:=I ku;clear aL aE yd ku;go_wp2;rw[IY.out,lJ.out];go_loop [8,9] (λv i=>∃k:Nat,f<=k/\k<=t/\i=.int .i64 k/\v=.int .u64 ((bd ((bs.drop f).take (k-f)):Nat):Int)) (λ_ i=>t-(intOf i).toNat)
 case atStart=>exact⟨f,Nat.le_refl _,gY,rfl,by rw[Nat.sub_self];rfl⟩
 case round=>
  obtain⟨k,LP,yo,rfl,rfl⟩:=hrel;by_cases hk:k<t
  .have ai:=kC.out k;have n7:=λW=>ai W (by omega)
   have k3:=qy.out bs[k] (b8 (by omega));clear ai;have hstep:=asb bs f k LP (by omega) (by omega) qy.out;have kD:=I hstep;clear hstep;generalize bs[k]=x at n7 k3 kD;go_wp2;rw[kD.out];go_round
   case rel=>exact⟨k+1,by omega,by omega,by go_num,rfl⟩
   case measure=>simp[intOf];omega
  .obtain rfl:k=t:=by omega
   have aD:=ZO bs qy.out pos m (k-f) hm hle (by have aq:=fK.out;have aK:=br.out;omega);rw[<-br.out]at aD;have hy:bd ((bs.drop f).take (k-f))<2^40:=by
    have aT:=o4 ((bs.drop f).take (k-f)) (λx ai=>qy.out x (mem_of_mem_drop (mem_of_mem_take ai)));have ci:256^((bs.drop f).take (k-f)).length<=256^5:=dy (by omega) (by rw[cr];omega);have c6:(256:Nat)^5=2^40:=by decide
    omega
   generalize bd ((bs.drop f).take (k-f))=y at aD hy;have aI:(y:Int)/2^(pos%8)=((y/2^(pos%8):Nat):Int):=by simp
   have ko:=div_le_self y (2^(pos%8));have aQ:∀z,z=y/2^(pos%8)->z%2^m=bd bs/2^pos%2^m:=λz aQ=>by rw[aQ];exact aD
   have CM:y/2^(pos%8)<2^64:=by
    have:(2:Nat)^40<=2^64:=dy (by omega) (by omega);omega
   have akb:bd bs/2^pos%2^m<4294967296:=gJ (mod_lt _ (eK m)) (dy (n:=2) (j:=32) (by omega) hm);have fC:=I aI;have gR:=I aD;clear aD aI aQ ko hy;go_wp2_with fail
   rw[fC.out];refine(Nr (y/2^(pos%8)) m _ CM (by omega)).mono ?_;rintro e w' ⟨rfl,rfl⟩;rw[gR.out];have U8:(pos:Int)+m=((pos+m:Nat):Int):=by omega
   have qA:=I U8;clear U8 CM;generalize kc:bd bs/2^pos%2^m=z at akb;have aeq:=I kc;clear kc;go_wp2;go_ret2;rw[qA.out,aeq.out];exact⟨rfl,aqk oE.out dD m,ho (qa (dg _ _) _) _ _⟩
theorem am8(A:a7)(n c:Nat)(bs:ae)(w:ah)(aA:bs.length=n)(cs:∀b∈bs,b<256)(aj:Reads w A (aO bs)) :
  Calls prog 148 #[.slice A n c] w λe w'=>e=.returned (.pointer (some ⟨w.heap.size,0,none⟩))/\er w' w.heap.size 0 bs 0/\av w w':=by
 subst aA;exact D0 A c bs w cs aj
theorem dL.W6{w:ah}{b off N n:Nat}(h:dL w b off N n):w.cell? ⟨b,off+2,none⟩=some (.int .i64 n):=by
 obtain⟨p,rest,us,ao,h1,af,_⟩:=h;exact af
def jd(w:ah)(B b:Nat)(bs:ae)(left:Nat):Prop:=∃g cap,
 w.cell? ⟨b,0,none⟩=some (.slice (some ⟨g,0,none⟩) bs.length cap)/\w.cell? ⟨b,1,none⟩=some (.int .i64 left)/\w.frozen? ⟨b,1,none⟩=false /\
 B<=b/\b<w.heap.size/\B<=g/\g<w.heap.size/\g≠b/\bs.length<=cap/\cap<=maxLen/\Reads w (some ⟨g,0,none⟩) (aO bs)
theorem jd.keep{w w':ah}{B b left:Nat}{bs:ae}{row:Option Nat}(h:jd w B b bs left)(aF:w.grownBy w' row)(aj:∀r,row=some r->r<B):jd w' B b bs left:=by
 obtain⟨g,cap,ao,h1,af,aq,aK,aT,ci,c6,e8,dh,td⟩:=h;have hl:=aF.block b aK (λe=>by have:=aj b e.symm;omega);have ew:=aF.block g ci (λe=>by have:=aj g e.symm;omega);refine⟨g,cap,(World.cell?_of_block hl).trans ao,(World.cell?_of_block hl).trans h1,(World.frozen?_of_block hl).trans af,aq,gJ aK aF.size,aT,gJ ci aF.size,c6,e8,dh,λaZ=>?_⟩;obtain⟨eT,off,e,hc⟩:=td aZ;injection e with e
 injection e with aG e2
 subst aG e2;exact⟨_,_,rfl,λj ar=>(World.cell?_of_block (a:=⟨g,0+j,none⟩) ew).trans (hc j ar)⟩
theorem Yr{w:ah}{g b i:Nat}{xs:b1}{u:Value}(h:Reads w (some ⟨g,0,none⟩) xs)(aZ:g≠b):Reads (w.setCell ⟨b,i,none⟩ u) (some ⟨g,0,none⟩) xs:=λai=>by
 obtain⟨eT,off,e,hc⟩:=h ai;injection e with e
 injection e with aG e2
 subst aG e2;exact⟨_,_,rfl,λj ar=>by rw[World.cell?_setCell_other _ _ _ _ (by intro e;injection e with e _ _;exact aZ e.symm)];exact hc j ar⟩
theorem jd.step{w:ah}{B b left:Nat}{bs:ae}(h:jd w B b bs left)(left':Nat):jd (w.setCell ⟨b,1,none⟩ (.int .i64 left')) B b bs left':=by
 obtain⟨g,cap,ao,h1,af,aq,aK,aT,ci,c6,e8,dh,td⟩:=h;refine⟨g,cap,?_,World.cell?_setCell_same _ _ _ h1,by simpa using af,aq,by simpa using aK,aT,by simpa using ci,c6,e8,dh,Yr td c6⟩;rw[World.cell?_setCell_other _ _ _ _ (by intro e;injection e with _ e _;omega)];exact ao
theorem afC(b:Nat)(n:Int)(w:ah)(h:w.cell? ⟨b,1,none⟩=some (.int .i64 n)) :
  Calls prog 227 #[.pointer (some ⟨b,0,none⟩)] w λe w'=>e=.returned (.int .i64 n)/\w=w':=by
 go_enter func227,ntmps227
 go_wp2;go_ret;exact⟨rfl,rfl⟩
theorem afB(B b left:Nat)(bs:ae)(w:ah)(h:jd w B b bs left) :
  Calls prog 227 #[.pointer (some ⟨b,0,none⟩)] w λe w'=>e=.returned (.int .i64 left)/\w=w':=by
 obtain⟨g,cap,_,h1,_⟩:=h;exact afC b _ w h1
theorem af8(w:ah)(n:Int):Calls prog 225 #[.pointer none,.int .i64 n] w λe w'=>e=.returned (.tuple #[.int .u32 0,.bool false])/\w=w':=by
 go_enter func225,ntmps225
 go_wp2;go_ret2;exact⟨rfl,rfl⟩
theorem Ro(B b left:Nat)(bs:ae)(m:Nat)(w:ah)(hm:m<=32)(lq:left<m)(h:jd w B b bs left) :
  Calls prog 225 #[.pointer (some ⟨b,0,none⟩),.int .i64 m] w λe w'=>e=.returned (.tuple #[.int .u32 0,.bool false])/\w=w':=by
 obtain⟨g,cap,_,h1,_⟩:=h;have au:(left:Int)<m:=by omega
 go_enter func225,ntmps225
 go_wp2;go_ret2;exact⟨rfl,rfl⟩
theorem ard(g L c f t:Nat)(W:ah)(aL:f<t)(aE:t<=L)(hc:L<=c) :
  (Instr.slice 87 (.slice (some ⟨g,0,none⟩) L c) (some (.int .i64 f)) (some (.int .i64 t)) none).run prog W=.ok (.slice (some ⟨g,f,none⟩) (t-f) (c-f)) W:=by
 have h1:¬c=f:=by omega
 have af:f<=t:=by omega
 have aq:t<=c:=by omega
 have aK:f<=c:=by omega
 go_simp
theorem apJ{w:ah}{g f t:Nat}{bs:ae}(h:Reads w (some ⟨g,0,none⟩) (aO bs))(aL:f<t)(aE:t<=bs.length):Reads w (some ⟨g,f,none⟩) (aO ((bs.drop f).take (t-f))):=λ_=>by
 obtain⟨eT,off,e,hc⟩:=h (by intro e;have:=i7 bs;rw[e]at this;simp at this;omega);injection e with e
 injection e with aG e2
 subst aG e2;refine⟨g,f,rfl,λj ar=>?_⟩;have Ar:j<t-f:=by simp[aO]at ar;omega
 have c8:=hc (f+j) (by rw[i7];omega);rw[ez]at c8;have hl:j<((bs.drop f).take (t-f)).length:=by simp;omega
 rw[c8,jq bs (f+j) (by omega),jq _ j hl];simp
theorem Rp(B b left:Nat)(bs:ae)(m:Nat)(w:ah)(ap:bs.length<=100000000)(cs:∀x∈bs,x<256)(hm:m<=32)(hle:m<=left)(u7:left<8*bs.length)(h:jd w B b bs left) :
  Calls prog 225 #[.pointer (some ⟨b,0,none⟩),.int .i64 m] w λe w'=>
   e=.returned (.tuple #[.int .u32 ((bd bs/2^(left-m)%2^m:Nat):Int),.bool true])/\jd w' B b bs (left-m)/\w.grownBy w' (some b)/\w'.cell? ⟨b,0,none⟩=w.cell? ⟨b,0,none⟩:=by
 have cN:=I (h.step (left-m));obtain⟨g,cap,ao,h1,af,aq,aK,aT,ci,c6,e8,dh,td⟩:=h;have rv:=I aK;obtain⟨hS,et⟩:∃a,a=left-m:=⟨_,rfl⟩;obtain⟨f,aL⟩:∃f,f=hS/8:=⟨_,rfl⟩;obtain⟨Ba,vb⟩:∃r,r=hS%8:=⟨_,rfl⟩;obtain⟨t,aE⟩:∃t,t=f+min 5 (bs.length-f):=⟨_,rfl⟩;have lr:f<bs.length:=by omega
 have gY:f<t:=by omega
 have e1:t<=bs.length:=by omega
 have awC:Ba<8:=by omega
 have avC:hS<=800000000:=by omega
 have LM:f<=100000000:=by omega
 have Lu:(left:Int)-m=hS:=by omega
 have Tw:(hS:Int)/8=(f:Int):=by omega
 have Ty:min ((f:Int)+5) (bs.length:Int)=t:=by omega
 have Tz:(hS:Int)%8=(Ba:Int):=by omega
 have hlen:((bs.drop f).take (t-f)).length=t-f:=by simp;omega
 have fQ:∀W:ah,(Instr.slice 87 (.slice (some ⟨g,0,none⟩) bs.length cap) (some (.int .i64 f)) (some (.int .i64 t)) none).run prog W=.ok (.slice (some ⟨g,f,none⟩) (t-f) (cap-f)) W:=
  λW=>ard g bs.length cap f t W gY e1 e8
 have hsub:∀x∈(bs.drop f).take (t-f),x<256:=λx ai=>cs x (mem_of_mem_drop (mem_of_mem_take ai))
 have hval:=ZO bs cs hS m (t-f) hm (by omega) (by omega);rw[<-aL,<-vb,et]at hval;have hfit:Ba+m<=8*(t-f):=by omega
 have aS:jd (w.setCell ⟨b,1,none⟩ (.int .i64 hS)) B b bs hS:=by rw[et];exact cN.out
 have bt:=apJ (Yr (b:=b) (i:=1) (u:=.int .i64 hS) td c6) gY e1;have jP:(w.setCell ⟨b,1,none⟩ (.int .i64 hS)).cell? ⟨b,1,none⟩=some (.int .i64 hS):=World.cell?_setCell_same _ _ _ h1;have eu:b<(w.setCell ⟨b,1,none⟩ (.int .i64 hS)).heap.size:=by simpa using aK
 have ep:=I bt;have lJ:=I aS;have abh:=I Lu;have Ix:=I Tw;have abj:=I Ty;have abk:=I Tz;have Hlen:=I hlen;have JA:=I hsub;have aef:=I hval;have ab2:=I jP;clear aS bt Lu Tw Ty Tz hlen hsub hval cs aT ci c6 dh td aL vb aE jP;go_enter func225,ntmps225
 go_upto_region 4 with fail
 rw[abh.out];have rr:=I et;clear et;go_upto_region 6 with fail
 rw[Ix.out,abj.out];go_wp2_with fail
 refine(am8 (some ⟨g,f,none⟩) (t-f) (cap-f) _ _ Hlen.out JA.out ep).mono ?_;rintro e aC ⟨rfl,qX,aJ⟩;obtain⟨tF,lT⟩:∃x,x=(w.setCell ⟨b,1,none⟩ (.int .i64 hS)).heap.size:=⟨_,rfl⟩;rw[<-lT]at qX ⊢;have d1:aC.cell? ⟨b,1,none⟩=some (.int .i64 hS):=(aJ.cell (p:=⟨b,1,none⟩) eu).trans ab2.out;have xF:=I qX;replace aJ:Below tF (w.setCell ⟨b,1,none⟩ (.int .i64 hS)) aC:=by rw[lT];exact aJ
 have gd:=aJ.size;rw[<-lT]at gd;have bm:=I aJ;have oR:b<tF:=by rw[lT];exact eu
 have DA:w.heap.size<=tF:=by rw[lT];simp
 have ac4:=I lT;clear aJ qX fQ lT eu;go_wp2_with fail
 rw[abk.out];refine(tO tF 0 _ 0 Ba aC (by rw[Hlen.out];omega) JA.out (by omega) (by rw[Hlen.out];omega) xF.out).mono ?_;rintro e a6 ⟨rfl,qY,ct⟩;generalize bd (List.take (t-f) (List.drop f bs))/2^0%2^Ba=junk;have B8:=I qY;have b6:=I (bm.out.trans (below_grown ct bl gd));have si:=ct.size;clear qY ct d1;go_wp2_with fail
 refine(tO tF 0 _ (0+Ba) m a6 (by rw[Hlen.out];omega) JA.out hm (by rw[Hlen.out];omega) B8.out).mono ?_;rintro e bH ⟨rfl,_,cx⟩;rw[ez,aef.out];have dt:=I (b6.out.trans (below_grown cx bl (by omega)));clear cx;generalize hy:bd bs/2^(left-m)%2^m=y;have rD:=I hy;clear hy;go_wp2;go_ret2;have bc:=dt.out;rw[ac4.out]at bc;rw[rD.out];refine⟨rfl,?_,(ho (dg w (some b)) 1 (.int .i64 hS)).trans (dj bc (some b)),?_⟩
 .rw[<-rr.out];exact lJ.out.keep (dj bc none) (by simp)
 .rw[bc.cell (p:=⟨b,0,none⟩) (by simpa using rv.out),World.cell?_setCell_other _ _ _ _ (by intro e;injection e with _ e _;omega)]
def Rest(w:ah)(B:Nat)(A:a7)(X L:Nat):Prop:=
 L=0\/∃g off,A=some ⟨g,off,none⟩/\B<=g/\g<w.heap.size/\∀j,j<L->w.cell? ⟨g,off+j,none⟩=some (.int .i64 ((X/2^j%2:Nat):Int))
theorem arf(A:a7)(L c q:Nat)(W:ah)(h:q<=L)(hc:L<=c):(Instr.slice 112 (.slice A L c) none (some (.int .i64 q)) none).run prog W=.ok (.slice A q c) W:=by
 have h1:q<=c:=by omega
 rcases A with _|a
 .go_simp
 .go_simp
theorem NV{w:ah}{B:Nat}{v:Value}{X L:Nat}(h:w.ownsRow B 3 1 v L (aM (am.bitsOf X L))):∃A c,v=.slice A L c/\L<=c/\c<=maxLen/\Rest w B A X L:=by
 rcases h.2 with⟨aD,ao⟩|⟨g,cap,eW,aD,ak,hh,h1,af,_⟩
 .exact⟨none,0,by rw[aD,ao],by omega,by unfold maxLen;omega,.inl ao⟩
 .refine⟨some ⟨g,0,none⟩,cap,aD,h1,af,.inr ⟨g,0,rfl,ak,?_,λj ar=>?_⟩⟩
  .rcases eF g w.heap.size with aq|aq
   .exact aq
   .rw[Array.getElem?_eq_none aq]at hh;cases hh
  .have hc:=h.cells (g:=g) (by rw[aD];rfl) j _ (iN _ j (by rw[gV];exact ar));rw[zO,lM]at hc;rw[ez];exact hc
end Go.Proofs.YtgiicohbigiapaaGreat
