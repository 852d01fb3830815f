/- Contracts. -/
import Derived.Test.YtgiicohbigiapaaGreatQab
import Derived.Lib.Hide
import Derived.BigQuiet
import Derived.StillTailTactics
import Derived.Laws.AppendOwnNone
import Derived.Deep.DeepCutAuto
import Derived.Test.YtgiicohbigiapaaGreatQz1
import Derived.Test.YtgiicohbigiapaaGreatQz0
set_option maxHeartbeats 4000000
set_option maxRecDepth 100000
open Go.Proofs.Tryz Go.Proofs.YtgiicohbigiapaaGreat.ao List Nat Option
namespace Go.Proofs.YtgiicohbigiapaaGreat
open Go.RowKit
theorem Fs(n:Nat)(h:n<2^64):IntKind.u64.wrap (n:Int)=n:=by
 have:IntKind.u64.wrap (n:Int)=n%18446744073709551616:=by simp[IntKind.wrap,IntKind.bits,IntKind.signed]
 rw[this];omega
theorem or_val(rest x a:Nat)(aj:rest<2^64):bits .or .u64 (rest:Int) (IntKind.u64.wrap ((x:Int)*2^a))=((rest ||| x*2^a%2^64:Nat):Int):=by
 have e:(x:Int)*2^a=((x*2^a:Nat):Int):=by simp
 have e2:IntKind.u64.wrap ((x*2^a:Nat):Int)=((x*2^a%2^64:Nat):Int):=by
  have:IntKind.u64.wrap ((x*2^a:Nat):Int)=((x*2^a:Nat):Int)%18446744073709551616:=by simp[IntKind.wrap,IntKind.bits,IntKind.signed]
  rw[this];omega
 rw[e,e2,u64_or_nat _ _ aj (by exact mod_lt _ (by decide))]
theorem Zi(v m:Nat):(v:Int)%2^m=((v%2^m:Nat):Int):=by simp
theorem nA{w:ai}{A:a7}{l:ae}(h:Reads w A (aN l))(aX:l≠[]):∃g off,A=some ⟨g,off,none⟩/\∀j (ar:j<l.length),w.cell? ⟨g,off+j,none⟩=some (.int .u8 (l[j]:Int)):=by
 obtain⟨g,off,e,hc⟩:=h (by simpa [aN]using aX);exact⟨g,off,e,λj ar=>by rw[hc j (by simpa [aN]using ar),jF l j ar]⟩
theorem Iq{w:ai}{base:Nat}{e:TypeId}{v:Value}{n:Nat}{xs:b3}(h:w.ownsRow base e 1 v n xs)(az:0<n):∃g cap,v=.slice (some ⟨g,0,none⟩) n cap/\base<=g/\g<w.heap.size:=by
 rcases h.2 with⟨_,am⟩ | ⟨g,cap,fg,aE,ak,hh,_⟩
 .omega
 .refine⟨g,cap,aE,ak,?_⟩;rcases eP g w.heap.size with h1 | h1
  .exact h1
  .rw[Array.getElem?_eq_none h1]at hh;cases hh
theorem own_below{w w':ai}{base:Nat}{e:TypeId}{v:Value}{n:Nat}{xs:b3}(h:w.ownsRow base e 1 v n xs)(ak:Below w.heap.size w w'):w'.ownsRow base e 1 v n xs:=
 h.kept (row:=none) (dr ak none) (by cases v.ownBlock<;>simp)
theorem AN(g j:Nat):((⟨g,0,none⟩:Addr).add j)=⟨g,j,none⟩:=by
 unfold Addr.add;split<;>simp_all
theorem kU{w:ai}{base:Nat}{e:TypeId}{v:Value}{n:Nat}{xs:b3}(h:w.ownsRow base e 1 v n xs):∃A c,v=.slice A n c/\Reads w A xs/\(∀a,A=some a->base<=a.block/\a.block<w.heap.size/\∃ag q9,w.heap[a.block]?=some (.cells ag e q9)):=by
 rcases eq_zero_or_pos n with am | am
 .subst am;have hl:xs=[]:=lq (by simpa using h.1);subst hl;rcases h.2 with⟨aE,_⟩ | ⟨g,cap,fg,aE,ak,hh,_⟩
  .exact⟨none,0,aE,λh=>absurd rfl h,λa e=>by cases e⟩
  .refine⟨some ⟨g,0,none⟩,cap,aE,λh=>absurd rfl h,λa e=>?_⟩;injection e with e
   subst e;refine⟨ak,?_,_,_,hh⟩;rcases eP g w.heap.size with h1 | h1
   .exact h1
   .rw[Array.getElem?_eq_none h1]at hh;cases hh
 .rcases h.2 with⟨_,h1⟩ | ⟨g,cap,fg,aE,ak,hh,aq⟩
  .omega
  .refine⟨some ⟨g,0,none⟩,cap,aE,λ_=>⟨g,0,rfl,λj ar=>?_⟩,λa e=>?_⟩
   .have hc:=h.cells (g:=g) (by rw[aE];rfl) j (xs[j]) (bH ar);rw[AN]at hc;rw[eH,hc,bH ar]
   .injection e with e
    subst e;refine⟨ak,?_,_,_,hh⟩;rcases eP g w.heap.size with h1 | h1
    .exact h1
    .rw[Array.getElem?_eq_none h1]at hh;cases hh
theorem Tp(v k:Nat):(v:Int)/2^(8*k)%256=((v/256^k%256:Nat):Int):=by rw[ib];simp
theorem k8{w w':ai}(h:w.grownBy w' none):Below w.heap.size w w':=⟨h.os,h.tape,h.output,h.size,λk hk=>h.block k hk (by simp)⟩
theorem oK{w:ai}{g:Nat}{t:TypeId}{ag:b3}(h:Row w g t ag):Reads w (some ⟨g,0,none⟩) ag:=λ_=>⟨g,0,rfl,λj _=>by rw[eH];exact h.cell j⟩
theorem ZK{w:ai}{base g n cap:Nat}{e:TypeId}{xs:b3}(h:w.ownsRow base e 1 (.slice (some ⟨g,0,none⟩) n cap) n xs):n<=cap/\cap<=maxLen:=by
 rcases h.2 with⟨aE,_⟩ | ⟨fd,cap',fg,aE,ak,hh,h1,af,_⟩
 .cases aE
 .injection aE with _ _ e3
  subst e3;exact⟨h1,af⟩
theorem anm{w:ai}{base base' n:Nat}{v:Value}{e:TypeId}{xs:b3}(h:w.ownsRow base e 1 v n xs)(ak:base'<=base):w.ownsRow base' e 1 v n xs:=
 ⟨h.1,h.2.imp id (λ⟨g,cap,fg,a,b,c⟩=>⟨g,cap,fg,a,du ak b,c⟩)⟩
theorem aph{w:ai}{g:Nat}{xs:b3}(h:Reads w (some ⟨g,0,none⟩) xs)(aD:g<w.heap.size)(o:Obj):Reads (w.alloc o) (some ⟨g,0,none⟩) xs:=λaX=>by
 obtain⟨fd,off,e,hc⟩:=h aX;injection e with e
 injection e with aF e2
 subst aF e2;exact⟨_,_,rfl,λj ar=>by rw[World.cell?_alloc_lt _ _ _ (by exact aD)];exact hc j ar⟩
theorem apn{w:ai}{g off:Nat}{xs:b3}(h:Reads w (some ⟨g,off,none⟩) xs):∀j u,xs[j]?=some u->w.cell? ((⟨g,off,none⟩:Addr).add j)=some u:=by
 intro j u ar;have fr:j<xs.length:=by
  rcases eP j xs.length with h1 | h1
  .exact h1
  .rw[getElem?_eq_none h1]at ar;cases ar
 obtain⟨fd,off',e,hc⟩:=h (by intro e;rw[e]at fr;simp at fr);injection e with e
 injection e with aF e2
 subst aF e2;have e:((⟨g,off,none⟩:Addr).add j)=⟨g,off+j,none⟩:=by unfold Addr.add;split<;>simp_all
 rw[e,hc j fr,ar]
theorem afb:Lib.bitLen 0=0:=by decide
theorem S7:∀x:Nat,x<2^64->Lib.bitLen x=ao.wid x:=by
 intro x;induction x using Nat.strongRecOn with
 | ind x ih=>
  intro ah;rcases eq_zero_or_pos x with h | h
  .subst h;rfl
  .rw[Lib.bitLen_half x (by omega) ah,ih (x/2) (by omega) (by omega)];rcases eq_zero_or_pos (x/2)with h1 | h1
   .rw[h1,show x=1 by omega,Cb 1 0 (by simp) (by simp)];rfl
   .have af:=as9 (x/2) h1 (x%2) (by omega);rw[show 2*(x/2)+x%2=x by omega]at af;omega
theorem ap4(x:Nat)(w:ai)(ah:x<4294967296) :
  Calls prog 189 #[.int .u32 x] w λe w'=>e=.returned (.int .i64 (Lib.bitLen x))/\w=w':=by
 have ak:=Lib.bitLen_le x 32 (by omega) (by omega);go_enter func189,ntmps189
 go_wp2;go_loop [0,3] (λv n=>∃y k:Nat,y<=x/\v=.int .u32 y/\n=.int .i64 k/\Hid (k+Lib.bitLen y=Lib.bitLen x)) (λv _=>(intOf v).toNat)
 case atStart=>exact⟨x,0,Nat.le_refl _,rfl,rfl,by unfold Hid;omega⟩
 case round=>
  obtain⟨y,k,hy,rfl,rfl,hk⟩:=hrel;have avJ:k<=32:=by have:=hk.out;omega
  by_cases am:0<y
  .have hh:Lib.bitLen y=1+Lib.bitLen (y/2):=Lib.bitLen_half y (by omega) (by omega);have fB:=I hh;clear hh;go_wp2;go_round
   case rel=>exact⟨y/2,k+1,by omega,by go_num,by go_num,by have h1:=hk.out;have af:=fB.out;unfold Hid;omega⟩
   case measure=>simp[intOf];omega
  .obtain rfl:y=0:=by omega
   go_wp2;go_ret;exact⟨congrArg Ending.returned (congrArg (Value.int .i64) (by have h1:=hk.out;rw[afb]at h1;omega)),rfl⟩
theorem aaz(x:Nat)(w:ai)(ah:x<4294967296) :
  Calls prog 189 #[.int .u32 x] w λe w'=>e=.returned (.int .i64 (ao.wid x))/\w=w':=by
 have h:=ap4 x w ah;rw[S7 x (by omega)]at h;exact h
theorem akT:(prog.info? 3).map (λi=>(i.zero,i.size,i.bytes))=some (some (.int .i64 0),1,8):=by kernel_rfl
theorem apI(A:a7)(c:Nat)(w:ai) :
  Calls prog 83 #[.slice A 0 c] w λe w'=>e=.returned (.int .u32 0)/\w=w':=by
 go_enter func83,ntmps83
 go_wp2;go_loop [3,4] (λv i=>v=.int .u32 0/\i=.int .i64 (-1)) (λ_ _=>0)
 case atStart=>exact⟨rfl,rfl⟩
 case round=>
  obtain⟨rfl,rfl⟩:=hrel;go_wp2;go_ret;exact⟨rfl,rfl⟩
theorem aar(g off n c N:Nat)(w:ai)(az:n<=32)(hp:0<n)(hc:∀j,j<n->w.cell? ⟨g,off+j,none⟩=some (.int .i64 ((N/2^j%2:Nat):Int))) :
  Calls prog 83 #[.slice (some ⟨g,off,none⟩) n c] w λe w'=>e=.returned (.int .u32 ((N%2^n:Nat):Int))/\w=w':=by
 have ah:N%2^n<4294967296:=gV (mod_lt _ (eW n)) (dD (n:=2) (by omega) az);go_enter func83,ntmps83
 go_wp2;go_loop [3,4] (λv i=>∃k y:Nat,k<=n/\v=.int .u32 y/\i=.int .i64 ((k:Int)-1)/\Hid (y=N%2^n/2^k)) (λ_ i=>(intOf i+1).toNat)
 case atStart=>exact⟨n,0,Nat.le_refl _,rfl,rfl,by unfold Hid;rw[div_eq_of_lt (mod_lt _ (eW n))]⟩
 case round=>
  obtain⟨k,y,hk,rfl,rfl,hy⟩:=hrel;by_cases am:k=0
  .subst am;have aL:Ending.returned (Value.int .u32 y)=Ending.returned (Value.int .u32 ((N%2^n:Nat):Int)):=by
    have h1:=hy.out;rw[Nat.pow_zero,Nat.div_one]at h1;rw[h1]
   have bk:=I aL;clear hc aL hy;go_wp2;go_ret;exact⟨bk,rfl⟩
  .obtain⟨j,rfl⟩:∃j,k=j+1:=⟨k-1,by omega⟩;rw[show(((j+1:Nat):Int)-1)=(j:Int) by omega];have hcell:=hc j (by omega);have aC:N/2^j%2<=1:=by omega
   have ap:y*2+N/2^j%2=N%2^n/2^j:=by
    have h1:=hy.out;rw[<-Ib N n j (by omega),h1,ej,<-km];omega
   have hle:y*2+N/2^j%2<=4294967295:=by
    have:=div_le_self (N%2^n) (2^j);omega
   have bU:=I ap;clear ap hc hy;generalize N/2^j%2=t at hcell aC bU hle;go_wp2;go_round
   case rel=>exact⟨j,y*2+t,by omega,by go_num,by go_num,bU⟩
   case measure=>simp[intOf]
theorem oG:(prog.info? 5).map (λi=>(i.zero,i.size,i.bytes))=some (some (.int .u8 0),1,1):=by kernel_rfl
theorem E7{w:ai}{base g n:Nat}(h:w.ownsRow base 5 1 (.slice (some ⟨g,0,none⟩) n n) n (madeCells #[Value.int .u8 0] n).toList):Row w g 5 (aN (List.replicate n 0)):=by
 rcases h.2 with⟨aE,_⟩ | ⟨fd,cap,fg,aE,ak,hh,h1,af,aq,aJ⟩
 .cases aE
 .injection aE with aF e2 e3
  injection aF with aF
  injection aF with aF
  subst aF e3;have e:fg.toList=aN (List.replicate n 0):=by
   rw[take_of_length_le (by rw[Array.length_toList];omega)]at aJ;rw[aJ,toList_madeCells_one];simp only[aN,map_replicate];rfl
  unfold Row;rw[<-e,Array.toArray_toList];exact hh
theorem o3(w:ai)(A:a7)(c:Nat)(bs:ae)(cr:∀b∈bs,b<256)(aj:Reads w A (aN bs)) :
  (convert 87 9 (.slice A bs.length c)).run prog w=.ok (.string (strOf bs)) w:=by
 have key:∀a:Addr,(∀j (ar:j<bs.length),w.cell? (a.add j)=some (.int .u8 (bs[j]:Int)))->(convert 87 9 (.slice (some a) bs.length c)).run prog w=.ok (.string (strOf bs)) w:=by
  intro a aS;have h:=run_convert_bytes_back (P:=prog) w 87 9 5 a c (bs.map UInt8.ofNat) underlying87 underlying5 underlying9 (λj ar=>by
   have Bm:j<bs.length:=by simpa using ar
   have av:=cr bs[j] (b7 Bm);rw[aS j Bm,getElem_map,UInt8.toNat_ofNat_of_lt' av])
  rw[cQ]at h;exact h
 rcases bs with _ | ⟨b,bs⟩
 .rcases A with _ | a
  .exact run_convert_bytes_nil w 87 5 underlying87 underlying5 0 c 9 underlying9
  .exact key a (λj ar=>absurd ar (by simp))
 .obtain⟨g,off,rfl,hc⟩:=nA aj (by simp);refine key _ (λj ar=>?_);have e:((⟨g,off,none⟩:Addr).add j)=⟨g,off+j,none⟩:=by unfold Addr.add;split<;>simp_all
  rw[e];exact hc j ar
theorem pT(bs:ae)(i:Nat)(W:ai)(ax:i<bs.length)(av:bs[i]<256):(Instr.index 9 (.string (strOf bs)) (.int .i64 i)).run prog W=.ok (.int .u8 ((bs[i]:Nat):Int)) W:=by
 have ap:=cZ bs;rw[run_index_string W 9 (strOf bs) .i64 (i:Int) underlying9,dif_pos ⟨by omega,by omega⟩];have e:(strOf bs)[i]'(by omega)=UInt8.ofNat bs[i]:=by
  rw[ByteArray.getElem_eq_getElem_data];simp[strOf]
 simp only[cY,e];rw[UInt8.toNat_ofNat_of_lt' av]
theorem OY{w:ai}{base g:Nat}{l:ae}(h:Row w g 5 (aN l))(ak:base<=g)(hm:l.length<=1000000000):w.ownsRow base 5 1 (.slice (some ⟨g,0,none⟩) l.length l.length) l.length (aN l):=
 ⟨by rw[jn,Nat.mul_one],.inr ⟨g,l.length,(aN l).toArray,rfl,ak,h,Nat.le_refl _,by unfold maxLen;omega,by simp[jn],by rw[take_of_length_le (by simp[jn])]⟩⟩
namespace ao
def s5(h b:Nat):Nat:=(h ^^^ b)*11400714819323198485%18446744073709551616
def uw(h b:Nat):Nat:=s5 h b ^^^ s5 h b/536870912
def s6(h n:Nat):Nat:=(h+n)%18446744073709551616*13787848793156543929%18446744073709551616
def zV(h n:Nat):Nat:=s6 h n ^^^ s6 h n/4294967296
def kZ:Nat:=7640891576956012808
def kx(h:Nat)(l:ae):Nat:=l.foldl uw h
theorem ab7{a b:Nat}(aS:a<18446744073709551616)(ak:b<18446744073709551616):a ^^^ b<18446744073709551616:=xor_lt_two_pow (n:=64) (by omega) (by omega)
theorem EP(h b:Nat):s5 h b<18446744073709551616:=mod_lt _ (by decide)
theorem aq5(h b:Nat):uw h b<18446744073709551616:=ab7 (EP h b) (Nat.lt_of_le_of_lt (div_le_self _ _) (EP h b))
theorem EQ(h n:Nat):s6 h n<18446744073709551616:=mod_lt _ (by decide)
theorem arv(h n:Nat):zV h n<18446744073709551616:=ab7 (EQ h n) (Nat.lt_of_le_of_lt (div_le_self _ _) (EQ h n))
theorem aco:kZ<18446744073709551616:=by decide
theorem UC(h:Nat)(l:ae)(hh:h<18446744073709551616):kx h l<18446744073709551616:=by
 induction l generalizing h with
 | nil=>exact hh
 | cons b l ih=>exact ih _ (aq5 h b)
theorem ahN(h:Nat)(l:ae)(b:Nat):kx h (l++[b])=uw (kx h l) b:=by
 unfold kx;rw[foldl_append,foldl_cons,foldl_nil]
theorem LM(h:Nat)(l:ae)(k:Nat)(hk:k<l.length):kx h (l.take (k+1))=uw (kx h (l.take k)) l[k]:=by
 rw[gb hk,ahN]
def sumOf(l:ae):Nat:=zV (kx kZ l) l.length
theorem abp(l:ae):sumOf l<18446744073709551616:=arv _ _
end ao
theorem atp(a b:Nat)(aS:a<18446744073709551616)(ak:b<18446744073709551616):bits .xor .u64 (a:Int) (b:Int)=((a ^^^ b:Nat):Int):=u64_xor_nat a b aS ak
theorem aa7(h b:Nat)(hh:h<18446744073709551616)(ak:b<256):IntKind.u64.wrap (bits .xor .u64 (h:Int) (b:Int)*11400714819323198485)=(s5 h b:Int):=by
 rw[u64_xor_nat h b hh (by omega),IntKind.wrap_u64];unfold s5;omega
theorem aa8(h b:Nat):bits .xor .u64 (s5 h b:Int) ((s5 h b:Int)/536870912)=(uw h b:Int):=xorShift_u64 (s5 h b) 536870912 (EP h b)
theorem abq(h n:Nat):IntKind.u64.wrap (IntKind.u64.wrap ((h:Int)+n)*13787848793156543929)=(s6 h n:Int):=by
 rw[IntKind.wrap_u64,IntKind.wrap_u64];unfold s6;omega
theorem abr(h n:Nat):bits .xor .u64 (s6 h n:Int) ((s6 h n:Int)/4294967296)=(zV h n:Int):=xorShift_u64 (s6 h n) 4294967296 (EQ h n)
theorem arh(a b:ae):strOf a++strOf b=strOf (a++b):=by
 simp[strOf,ByteArray.mk_append_mk]
theorem Ff(l:ae)(i j:Nat):(strOf l).extract i j=strOf ((l.take j).drop i):=by
 apply ByteArray.ext
 simp only[strOf,ByteArray.data_extract,extract_toArray,extract_eq_take_drop,map_drop,map_take];rw[drop_take]
theorem ark(l:ae)(j:Nat):(strOf l).extract 0 j=strOf (l.take j):=by rw[Ff,drop_zero]
theorem ari(l:ae)(i:Nat):(strOf l).extract i l.length=strOf (l.drop i):=by rw[Ff,take_length]
theorem IW(a:ae):(strOf a).toList=a.map UInt8.ofNat:=by simp[strOf]
theorem Y7:∀(a b:ae),(∀x∈a,x<256)->(∀x∈b,x<256)->a.map UInt8.ofNat=b.map UInt8.ofNat->a=b
 | [],[],_,_,_=>rfl
 | [],_ :: _,_,_,h=>by simp at h
 | _ :: _,[],_,_,h=>by simp at h
 | x :: a,y :: b,aS,ak,h=>by
  simp only[map_cons,List.cons.injEq]at h;have ah:=aS x ea;have hy:=ak y ea;have e:=congrArg UInt8.toNat h.1;rw[UInt8.toNat_ofNat_of_lt' ah,UInt8.toNat_ofNat_of_lt' hy]at e;rw[e,Y7 a b (λz aO=>aS z (ew _ aO)) (λz aO=>ak z (ew _ aO)) h.2]
theorem Fe(a b:ae)(aS:∀x∈a,x<256)(ak:∀x∈b,x<256):((strOf a).toList == (strOf b).toList)=decide (a=b):=by
 rw[IW,IW];by_cases h:a=b
 .subst h;simp
 .rw[bF h];simp only[beq_eq_false_iff_ne,ne_eq];exact λe=>h (Y7 a b aS ak e)
def Gz(s:ByteArray):ae:=s.data.toList.map UInt8.toNat
theorem arj(s:ByteArray):strOf (Gz s)=s:=by
 apply ByteArray.ext
 have e:(UInt8.ofNat ∘ UInt8.toNat)=id:=funext λu=>UInt8.ofNat_toNat
 simp[strOf,Gz,e]
theorem in_lt(s:ByteArray):∀x∈Gz s,x<256:=by
 intro x ah;obtain⟨u,_,rfl⟩:=List.mem_map.1 ah;exact u.toNat_lt
theorem of_string(s:ByteArray):∃l,s=strOf l/\∀x∈l,x<256:=⟨Gz s,(arj s).symm,in_lt s⟩
theorem p3{l:ae}(h:∀x∈l,x<256)(k:Nat):∀x∈l.take k,x<256:=λx ah=>h x (mem_of_mem_take ah)
theorem jw{l:ae}(h:∀x∈l,x<256)(k:Nat):∀x∈l.drop k,x<256:=λx ah=>h x (mem_of_mem_drop ah)
theorem Di{a b:ae}(aS:∀x∈a,x<256)(ak:∀x∈b,x<256):∀x∈a++b,x<256:=λx ah=>(List.mem_append.1 ah).elim (aS x) (ak x)
theorem B8(a b:ae)(h:a.length+b.length<=1000000000)(W:ai):(Op.stringOp .add (strOf a) (strOf b)).run prog W=.ok (.string (strOf (a++b))) W:=by
 rw[run_string_add_sum W _ _ (by rw[cZ,cZ];omega),arh]
theorem ti(l:ae)(j:Nat)(h:j<=l.length)(W:ai):(Instr.slice 9 (.string (strOf l)) none (some (.int .i64 j)) none).run prog W=.ok (.string (strOf (l.take j))) W:=by
 rw[run_slice_string_to_if W 9 _ .i64 j underlying9,aA ⟨by omega,by rw[cZ];omega⟩,cY,ark]
theorem pm(l:ae)(i:Nat)(h:i<=l.length)(W:ai):(Instr.slice 9 (.string (strOf l)) (some (.int .i64 i)) none none).run prog W=.ok (.string (strOf (l.drop i))) W:=by
 rw[run_slice_string_from_if W 9 _ .i64 i underlying9,aA ⟨by omega,by rw[cZ];omega⟩,cY,cZ,ari]
theorem agE(W:ai)(g b:Nat)(ak:b<256)(h:W.cell? ⟨g,0,none⟩=some (.int .u8 b))(c:Nat) :
  (convert 87 9 (.slice (some ⟨g,0,none⟩) 1 c)).run prog W=.ok (.string (strOf [b])) W:=by
 have h1:=o3 W (some ⟨g,0,none⟩) c [b] (by intro x ah;simp at ah;omega) (λ_=>⟨g,0,rfl,λj ar=>by
  have:j=0:=by simp[aN]at ar;omega
  subst this;rw[h];simp[aN]⟩)
 exact h1
def hi(n:Int):Nat:=(min (max n 0) 8).toNat
theorem UE(n:Int):hi n<=8:=by unfold hi;omega
abbrev Left:=Option (ae)
def eR(n:Nat):Left->ae×Left
 | some bs=>if n<=bs.length then(bs.take n,some (bs.drop n))else([],none)
 | none=>([],none)
def lI:Left->Nat×Left
 | some bs=>if 0<(aW bs).2 then((aW bs).1,some (bs.drop (aW bs).2))else(0,none)
 | none=>(0,none)
def lQ(most:Int)(st:Left):Nat×Left:=
 if (lI st).2=none\/most<0\/most<((lI st).1:Int)then(0,none)else lI st
def tj(most:Int)(st:Left):ae×Left:=eR (lQ most st).1 (lQ most st).2
def pA:Left->Prop
 | some bs=>(∀x∈bs,x<256)/\bs.length<=100000000
 | none=>True
theorem ZH{n:Nat}{st:Left}(h:pA st):pA (eR n st).2/\(∀x∈(eR n st).1,x<256)/\(eR n st).1.length<=n:=by
 rcases st with _ | bs
 .exact⟨trivial,by simp[eR],by simp[eR]⟩
 .simp only[eR];split
  .exact⟨⟨jw h.1 _,by have:=h.2;simp;omega⟩,p3 h.1 _,by simp;omega⟩
  .exact⟨trivial,by simp,by simp⟩
theorem ZG{st:Left}(h:pA st):pA (lI st).2/\(lI st).1<2^64:=by
 rcases st with _ | bs
 .exact⟨trivial,by simp[lI]⟩
 .simp only[lI];split
  .rename_i aw
   exact⟨⟨jw h.1 _,by have:=h.2;simp;omega⟩,(sn bs _ _ aw rfl).1⟩
  .exact⟨trivial,by omega⟩
theorem ok_int{most:Int}{st:Left}(h:pA st)(hm:most<=9223372036854775807):pA (lQ most st).2/\((lQ most st).1:Int)<=9223372036854775807:=by
 unfold lQ;split
 .exact⟨trivial,by simp⟩
 .rename_i az
  exact⟨(ZG h).1,by omega⟩
def PC(w:ai):a7->List (ae)->Prop
 | p,[]=>p=none
 | p,t :: kH=>∃g q,p=some ⟨g,0,none⟩/\Row w g 103 [.pointer q,.string (strOf t)]/\t≠[]/\PC w q kH
theorem PC.keep{w w':ai}(hk:∀g ag,Row w g 103 ag->Row w' g 103 ag):∀(kH:List (ae)) (p:a7),PC w p kH->PC w' p kH
 | [],_,h=>h
 | _ :: kH,_,⟨g,q,aw,aj,az,hc⟩=>⟨g,q,aw,hk _ _ aj,az,PC.keep hk kH q hc⟩
theorem Z2{w w':ai}{row:Option Nat}(aD:w.grownBy w' row)(aj:∀g,row=some g->k5 w g 103):∀g ag,Row w g 103 ag->Row w' g 103 ag:=
 λg _ h=>h.keep (aD.block g h.lt (λe=>(aj g e.symm).ne h rfl))
def fM(w:ai)(b:Nat)(bs:ae):Prop:=∃(p:a7) (kH:List (ae)),
 Row w b 62 [.pointer p,.int .i64 (bs.length:Int)]/\PC w p kH/\bs=kH.reverse.flatten
theorem fM.keep{w w':ai}{b:Nat}{bs:ae}{row:Option Nat}(h:fM w b bs)(aD:w.grownBy w' row)(ak:row≠some b)(aj:∀g,row=some g->k5 w g 103):fM w' b bs:=by
 obtain⟨p,kH,am,hc,e⟩:=h;exact⟨p,kH,am.keep (aD.block b am.lt (λe=>ak e.symm)),hc.keep (Z2 aD aj),e⟩
theorem fM.below{w w':ai}{b:Nat}{bs:ae}(h:fM w b bs)(aD:Below w.heap.size w w'):fM w' b bs:=h.keep (row:=none) (dr aD none) (by simp) (by simp)
theorem fM.new(w:ai):fM (w.alloc (.cells #[.pointer none,.int .i64 0] 62)) w.heap.size []:=⟨none,[],Row.new w _ [.pointer none,.int .i64 0],rfl,rfl⟩
def qF:Left->b3
 | some bs=>[.string (strOf bs),.bool false]
 | none=>[.string (strOf []),.bool true]
def bJ(w:ai)(b:Nat)(st:Left):Prop:=Row w b 73 (qF st)
theorem bJ.keep{w w':ai}{b:Nat}{st:Left}{row:Option Nat}(h:bJ w b st)(aD:w.grownBy w' row)(ak:row≠some b):bJ w' b st:=Row.keep h (aD.block b (Row.lt h) (λe=>ak e.symm))
theorem bJ.below{w w':ai}{b:Nat}{st:Left}(h:bJ w b st)(aD:Below w.heap.size w w'):bJ w' b st:=h.keep (row:=none) (dr aD none) (by simp)
theorem bJ.lt{w:ai}{b:Nat}{st:Left}(h:bJ w b st):b<w.heap.size:=Row.lt h
theorem TF(n:Int)(w:ai)(am:-9223372036854775808<=n)(h1:n<=9223372036854775807) :
  Calls prog 56 #[.int .i64 n] w λe w'=>e=.returned (.int .i64 (hi n))/\w=w':=by
 have aL:min (max n 0) 8=(hi n:Int):=by unfold hi;omega
 have bk:=I aL;clear aL;go_enter func56,ntmps56
 go_wp2;go_ret;exact⟨congrArg Ending.returned (congrArg (Value.int .i64) bk),rfl⟩
def qo(c i:Nat):Bool:=decide ((i=9/\c=1)\/(i≠9/\(c≠0\/i=0)))
theorem agc(c i:Nat)(w:ai)(hc:c<256)(ax:i<=9) :
  Calls prog 109 #[.int .u8 c,.int .i64 i] w λe w'=>e=.returned (.bool (qo c i))/\w=w':=by
 by_cases dm:i=9
 .subst dm;by_cases h1:c=1
  .subst h1;have he:qo 1 9=true:=by decide
   rw[he];go_enter func109,ntmps109
   go_wp2;go_ret;exact⟨rfl,rfl⟩
  .have he:qo c 9=false:=by unfold qo;simp;omega
   have ak:((c:Int) == 1)=false:=by simp;omega
   rw[he];clear h1 he;go_enter func109,ntmps109
   go_wp2;go_ret;exact⟨rfl,rfl⟩
 .have LW:((i:Int) == 9)=false:=by simp;omega
  by_cases am:c=0
  .subst am;by_cases aO:i=0
   .subst aO;have he:qo 0 0=true:=by decide
    rw[he];clear LW;go_enter func109,ntmps109
    go_wp2;go_ret;exact⟨rfl,rfl⟩
   .have he:qo 0 i=false:=by unfold qo;simp;omega
    have ak:((i:Int) == 0)=false:=by simp;omega
    rw[he];clear he aO dm;go_enter func109,ntmps109
    go_wp2;go_ret;exact⟨rfl,rfl⟩
  .have he:qo c i=true:=by unfold qo;simp;omega
   have ak:((c:Int) != 0)=true:=by simp;omega
   rw[he];clear he am dm;go_enter func109,ntmps109
   go_wp2;go_ret;exact⟨rfl,rfl⟩
theorem bJ.cells{w:ai}{b:Nat}{st:Left}(h:bJ w b st):w.cell? ⟨b,0,none⟩=some (.string (strOf (st.getD [])))/\w.cell? ⟨b,1,none⟩=some (.bool st.isNone)/\w.frozen? ⟨b,0,none⟩=false/\w.frozen? ⟨b,1,none⟩=false:=by
 refine⟨(Row.cell h 0).trans ?_,(Row.cell h 1).trans ?_,Row.free h 0,Row.free h 1⟩
 all_goals rcases st with _ | bs<;>rfl
theorem bJ.left{w:ai}{b:Nat}{st:Left}(h:bJ w b st)(l:ae):Row (w.setCell ⟨b,0,none⟩ (.string (strOf l))) b 73 [.string (strOf l),.bool st.isNone]:=by
 have h1:=Row.bm h 0 (.string (strOf l));have e:(qF st).set 0 (.string (strOf l))=[.string (strOf l),.bool st.isNone]:=by rcases st with _ | bs<;>rfl
 rw[e]at h1;exact h1
theorem Row.bad{w:ai}{b:Nat}{x:Value}(h:Row w b 73 [.string (strOf []),x]):bJ (w.setCell ⟨b,1,none⟩ (.bool true)) b none:=h.bm 1 (.bool true)
theorem bJ.step{w:ai}{b:Nat}{bs:ae}(h:bJ w b (some bs))(l:ae):bJ (w.setCell ⟨b,0,none⟩ (.string (strOf l))) b (some l):=h.left l
theorem gB(b:Nat)(st:Left)(w:ai)(h:bJ w b st):Calls prog 41 #[.pointer (some ⟨b,0,none⟩)] w λe w'=>e=.returned (.bool st.isNone)/\w=w':=by
 obtain⟨c0,c1,f0,f1⟩:=h.cells;clear h c0 f0 f1;generalize st.isNone=bad at c1 ⊢;go_enter func41,ntmps41
 go_wp2;go_ret;exact⟨rfl,rfl⟩
theorem IG(b:Nat)(st:Left)(w:ai)(h:bJ w b st):Calls prog 71 #[.pointer (some ⟨b,0,none⟩)] w λe w'=>e=.returned (.tuple #[])/\bJ w' b none/\w.grownBy w' (some b):=by
 obtain⟨c0,c1,f0,f1⟩:=h.cells;have H:=I h;clear h;go_enter func71,ntmps71
 go_wp2;go_end0
 refine⟨rfl,?_,hz (hz (dl _ _) _ _) _ _⟩;exact(H.out.left []).bad
theorem Lf(l:ae)(w:ai):Calls prog 18 #[.string (strOf l)] w λe w'=>e=.returned (.pointer (some ⟨w.heap.size,0,none⟩))/\bJ w' w.heap.size (some l)/\Below w.heap.size w w':=by
 generalize ap:strOf l=s;have bU:=I ap;clear ap;go_enter func18,ntmps18
 go_wp2;go_ret;refine⟨rfl,?_,dQ.alloc bh _⟩;rw[<-bU.out];exact Row.new w 73 [.string (strOf l),.bool false]
theorem vl(bs:ae):(strOf bs).toList.isEmpty=decide (bs=[]):=by
 rw[IW];rcases bs with _ | ⟨x,bs⟩
 .rfl
 .rw[bF (by simp)];rfl
theorem ao8(b:Nat)(st:Left)(w:ai)(h:bJ w b st):Calls prog 21 #[.pointer (some ⟨b,0,none⟩)] w λe w'=>e=.returned (.bool (decide (st=some [])))/\w=w':=by
 have bO:=I (gB b st w h);obtain⟨c0,c1,f0,f1⟩:=h.cells;clear h c1 f0 f1;rcases st with _ | bs
 .rw[bF (by simp)];go_enter func21,ntmps21
  go_wp2_with fail
  refine bO.out.mono ?_;rintro e w' ⟨rfl,rfl⟩;go_wp2;go_ret;exact⟨rfl,rfl⟩
 .have he:=vl bs;have dS:Hid (decide (some bs=some ([]:ae))=decide (bs=[])):=by unfold Hid;simp
  rw[dS.out];rw[b6]at c0;generalize strOf bs=s at c0 he;generalize decide (bs=[])=d at he ⊢;go_enter func21,ntmps21
  go_wp2_with fail
  refine bO.out.mono ?_;rintro e w' ⟨rfl,rfl⟩;go_wp2;go_ret;exact⟨rfl,rfl⟩
theorem apV(b:Nat)(n:Int)(w:ai)(h:bJ w b none):Calls prog 42 #[.pointer (some ⟨b,0,none⟩),.int .i64 n] w λe w'=>e=.returned (.string (strOf []))/\w=w':=by
 have bO:=I (gB b none w h);clear h;go_enter func42,ntmps42
 go_wp2_with fail
 refine bO.out.mono ?_;rintro e w' ⟨rfl,rfl⟩;go_wp2;go_ret;exact⟨rfl,rfl⟩
theorem bJ.drew{w:ai}{b:Nat}{st:Left}(h:bJ w b st):bJ w.drew b st:=h.keep (row:=none) (nR (dl _ _)) (by simp)
theorem apX(b m:Nat)(n:Int)(bs:ae)(w:ai)(hm:max n 0=(m:Int))(hle:m<=bs.length)(h:bJ w b (some bs)) :
  Calls prog 42 #[.pointer (some ⟨b,0,none⟩),.int .i64 n] w λe w'=>e=.returned (.string (strOf (bs.take m)))/\bJ w' b (some (bs.drop m))/\w.grownBy w' (some b):=by
 have bO:=I (gB b _ w h);obtain⟨c0,c1,f0,f1⟩:=h.cells;rw[b6]at c0;have bI:=cZ bs;have qy:=ti bs m hle;have fL:=pm bs m hle;have hstep:=h.step (bs.drop m);have kd:=I hstep;have av:(m:Int)<=(bs.length:Int):=by omega
 clear h hstep c1 f1;generalize strOf bs=s at c0 bI qy fL;generalize strOf (bs.take m)=s1 at qy ⊢;generalize strOf (bs.drop m)=s2 at fL kd;go_enter func42,ntmps42
 go_wp2_with fail
 refine bO.out.mono ?_;rintro e w' ⟨rfl,rfl⟩;go_wp2;go_ret;exact⟨rfl,kd,hz (dl _ _) _ _⟩
theorem apW(b m:Nat)(n:Int)(bs:ae)(w:ai)(hm:max n 0=(m:Int))(hle:bs.length<m)(h:bJ w b (some bs)) :
  Calls prog 42 #[.pointer (some ⟨b,0,none⟩),.int .i64 n] w λe w'=>e=.returned (.string (strOf []))/\bJ w' b none/\w.grownBy w' (some b):=by
 have bO:=I (gB b _ w h);have bk:=I (IG b _ w h);obtain⟨c0,c1,f0,f1⟩:=h.cells;rw[b6]at c0;have bI:=cZ bs;have av:(bs.length:Int)<m:=by omega
 clear h c1 f1 f0;generalize strOf bs=s at c0 bI;go_enter func42,ntmps42
 go_wp2_with fail
 refine bO.out.mono ?_;rintro e w' ⟨rfl,rfl⟩;go_wp2_with fail
 refine bk.out.mono ?_;rintro e w' ⟨rfl,fh,cP⟩;go_wp2;go_ret;exact⟨rfl,fh,cP⟩
theorem tc(b:Nat)(st:Left)(n:Int)(w:ai)(h:bJ w b st) :
  Calls prog 42 #[.pointer (some ⟨b,0,none⟩),.int .i64 n] w λe w'=>e=.returned (.string (strOf (eR n.toNat st).1))/\bJ w' b (eR n.toNat st).2/\w.grownBy w' (some b):=by
 rcases st with _ | bs
 .exact(apV b n w h).mono λe w' ⟨he,hw⟩=>by subst hw;exact⟨he,h,dl _ _⟩
 .have hm:max n 0=(n.toNat:Int):=by omega
  simp only[eR];split
  .exact apX b _ n bs w hm (by assumption) h
  .exact apW b _ n bs w hm (by omega) h
theorem aeM(c:Nat)(h:c<256):bits .andNot .u8 (c:Int) 128=((c%128:Nat):Int):=by
 have key:∀c,c<256->bits .andNot .u8 ((c:Nat):Int) 128=((c%128:Nat):Int):=by decide +kernel
 exact key c h
theorem anj(l:ae)(k:Nat)(hk:k<l.length)(dm:k<=9) :
  ∃eJ,bits .or .u64 ((eL (l.take k):Nat):Int) (IntKind.u64.wrap (((l[k]%128:Nat):Int)*2^(7*k)))=((eJ:Nat):Int)/\eJ<2^64/\(k<=8\/l[k]=1->eJ=eL (l.take (k+1))):=by
 have hlen:(l.take k).length=k:=by rw[cq];omega
 have aE:=Qf (l.take k);rw[hlen]at aE;have aw:(128:Nat)^k=2^(7*k):=by rw[show(128:Nat)=2^7 by rfl,<-Nat.pow_mul]
 have auz:(128:Nat)^k<=128^9:=dD (by omega) dm;have auy:(128:Nat)^9=2^63:=by decide
 have hv64:eL (l.take k)<2^64:=by omega
 refine⟨_,or_val _ (l[k]%128) (7*k) hv64,?_,?_⟩
 .exact or_lt_two_pow hv64 (mod_lt _ (by decide))
 .intro hc;have hsmall:l[k]%128*2^(7*k)<2^64:=by
   rw[<-aw];rcases hc with h | h
   .have fK:(128:Nat)^k<=128^8:=dD (by omega) h;have aux:127*(128:Nat)^8<2^64:=by decide
    have:=Nat.mul_le_mul (show l[k]%128<=127 by omega) fK;omega
   .rw[h,show 1%128=1 from rfl];omega
  rw[mod_eq_of_lt hsmall,zN (7*k) _ (l[k]%128) (by rw[<-aw];exact aE),asY l k hk,<-aw]
theorem apA(b:Nat)(w:ai)(h:bJ w b none):Calls prog 70 #[.pointer (some ⟨b,0,none⟩)] w λe w'=>e=.returned (.int .u64 0)/\w=w':=by
 have bO:=I (gB b none w h);clear h;go_enter func70,ntmps70
 go_wp2_with fail
 refine bO.out.mono ?_;rintro e w' ⟨rfl,rfl⟩;go_wp2;go_ret;exact⟨rfl,rfl⟩
theorem apB(b:Nat)(l:ae)(w:ai)(hl:l.length<=100000000)(av:∀x∈l,x<256)(h:bJ w b (some l)) :
  Calls prog 70 #[.pointer (some ⟨b,0,none⟩)] w λe w'=>e=.returned (.int .u64 ((lI (some l)).1:Int))/\bJ w' b (lI (some l)).2/\w.grownBy w' (some b):=by
 have bO:=I (gB b _ w h);have bk:=I (IG b _ w h);obtain⟨c0,c1,f0,f1⟩:=h.cells;rw[b6]at c0;have bI:=cZ l;have hidx:∀(i:Nat) (W:ai) (ax:i<l.length),(Instr.index 9 (.string (strOf l)) (.int .i64 i)).run prog W=.ok (.int .u8 ((l[i]:Nat):Int)) W:=λi W ax=>pT l i W ax (av _ (b7 ax))
 have fL:=pm l;have hle:=Oh l;obtain⟨n,az⟩:∃n,n=l.length:=⟨_,rfl⟩;obtain⟨M,la⟩:∃M,M=min n 10:=⟨_,rfl⟩;have Hp:min (n:Int) 10=(M:Int):=by omega
 obtain⟨LF,f2,hF⟩:∃f1 f2,lI (some l)=(f1,f2):=⟨_,_,rfl⟩;rw[hF];rw[<-az]at bI hl;have auV:M<=n:=by omega
 have auU:M<=10:=by omega
 have jo:=I hF;have bX:=I az;have FB:=I la;have acx:=I Hp;have ic:=I hidx;have Rz:=I fL;have b5:=I av;have m7:=I hle;have H:=I h;clear az hidx fL av hF hle la Hp h c1 f1;generalize strOf l=s at bI ic Rz c0;go_enter func70,ntmps70
 go_wp2_with fail
 refine bO.out.mono ?_;rintro e w' ⟨rfl,rfl⟩;go_wp2;rw[acx.out];go_loop [3,14] (λv i=>∃k V:Nat,k<=M/\Hid (k<=ao.lead l)/\i=.int .i64 k/\v=.int .u64 V/\Hid (k<=9->V=eL (l.take k))) (λ_ i=>M-(intOf i).toNat)
 case atStart=>exact⟨0,0,by omega,zero_le _,rfl,rfl,λ_=>rfl⟩
 case round=>
  obtain⟨k,V,avL,bb,rfl,rfl,bY⟩:=hrel;by_cases avX:k<M
  .have eu:k<l.length:=by rw[<-bX.out];omega
   have zh:k<=9:=by omega
   have lj:k<n:=by omega
   obtain⟨eJ,sL,au6,Vk⟩:=anj l k eu zh;have Vm:=bY.out zh;rw[<-Vm]at sL;have ah:=λW=>ic.out k W eu
   have tY:=b5.out l[k] (b7 eu);have hand:=aeM l[k] tY;have rx:=λh=>YT l k bb.out eu h
   have eC:=λh=>YQ l k bb.out eu h
   have DZ:=λh=>ahI l b5.out k eu zh h
   have Vl:k<=8\/l[k]=1->eJ=eL (l.take (k+1)):=Vk;have pz:=I rx;have pw:=I eC;have FS:=I DZ;have Cm:=I Vl;have wN:=I sL;clear rx eC DZ Vk Vl Vm sL;generalize l[k]=c at ah tY hand pz pw FS Cm wN;have HB:=Rz.out (k+1) eu;clear eu;obtain⟨d,aG⟩:∃d,d=c%128:=⟨_,rfl⟩;rw[<-aG]at hand wN;have avq:d<=127:=by omega
   clear aG;by_cases h128:128<=c
   .clear HB;go_wp2;go_round
    case rel=>exact⟨k+1,eJ,by omega,pz.out h128,by go_num,by first | rfl | rw[wN.out],λdm=>Cm.out (.inl (by omega))⟩
    case measure=>simp[intOf];omega
   .have hlead:=pw.out (by omega);have MK:=FS.out hlead;have Bi:=λW=>agc c k W tY zh
    have cP:=jo.out;simp only[lI,MK]at cP;have h0:=I Cm.out;by_cases he:(k=9/\c=1)\/(k≠9/\(c≠0\/k=0))
    .have Bh:qo c k=true:=by unfold qo;exact bG he
     rw[Bh]at Bi;rw[aA he]at cP;simp only[aA (succ_pos k)]at cP;have Vn:=h0.out (by omega);obtain⟨rfl,rfl⟩:eJ=LF/\some (l.drop (k+1))=f2:=by injection cP with h1 af;exact⟨by rw[Vn];exact h1,af⟩
     have hstep:=H.out.step (l.drop (k+1));rw[show((k+1:Nat):Int)=k+1 by omega]at HB;have rW:=I Bi;have kd:=I hstep;clear cP Bi MK hlead Bh he Vn h0 hstep jo pz pw FS Cm;generalize strOf (l.drop (k+1))=s2 at HB kd;go_wp2_with fail
     refine(rW.out _).mono ?_;rintro e w' ⟨rfl,rfl⟩;go_wp2;rw[wN.out];go_ret;exact⟨rfl,kd,hz (dl _ _) _ _⟩
    .have Bh:qo c k=false:=by unfold qo;exact bF he
     rw[Bh]at Bi;rw[ay he]at cP;simp only[Nat.lt_irrefl,if_false]at cP;obtain⟨rfl,rfl⟩:0=LF/\none=f2:=by injection cP with h1 af;exact⟨h1,af⟩
     have rW:=I Bi;clear cP Bi MK hlead Bh he h0 jo pz pw FS Cm HB;go_wp2_with fail
     refine(rW.out _).mono ?_;rintro e w' ⟨rfl,rfl⟩;go_wp2_with fail
     refine bk.out.mono ?_;rintro e w' ⟨rfl,fh,cP⟩;go_wp2;go_ret;exact⟨rfl,fh,cP⟩
  .have cP:=jo.out;have hlong:aW l=(0,0):=by
    refine LI l ?_;have h1:=bb.out;have af:=m7.out;have aq:=bX.out;have aJ:=FB.out;omega
   simp only[lI,hlong,Nat.lt_irrefl,if_false]at cP;obtain⟨rfl,rfl⟩:0=LF/\none=f2:=by injection cP with h1 af;exact⟨h1,af⟩
   obtain rfl:k=M:=by omega
   clear cP hlong jo;go_wp2_with fail
   refine bk.out.mono ?_;rintro e w' ⟨rfl,fh,cP⟩;go_wp2;go_ret;exact⟨rfl,fh,cP⟩
theorem apz(b:Nat)(st:Left)(w:ai)(cW:pA st)(h:bJ w b st) :
  Calls prog 70 #[.pointer (some ⟨b,0,none⟩)] w λe w'=>e=.returned (.int .u64 ((lI st).1:Int))/\bJ w' b (lI st).2/\w.grownBy w' (some b):=by
 rcases st with _ | l
 .exact(apA b w h).mono λe w' ⟨he,hw⟩=>by subst hw;exact⟨he,h,dl _ _⟩
 .exact apB b l w cW.2 cW.1 h
theorem ate(a:Addr)(w:ai):Calls prog 33 #[.pointer (some a),.string (strOf [])] w λe w'=>e=.returned (.pointer (some a))/\w=w':=by
 have he:(strOf []).toList.isEmpty=true:=by rw[vl];rfl
 generalize strOf []=s at he ⊢;go_enter func33,ntmps33
 go_wp2;go_ret;exact⟨rfl,rfl⟩
def more(w:ai)(b:Nat)(p:a7)(n:Int)(s:ByteArray):ai:=
 ((w.setCell ⟨b,0,none⟩ (.pointer (some ⟨w.heap.size,0,none⟩))).setCell ⟨b,1,none⟩ (.int .i64 n)).alloc (.cells #[.pointer p,.string s] 103)
theorem agN{w:ai}{b:Nat}{p:a7}{kH:List (ae)}{n:Int}(s:ae)(ap:s≠[])(am:Row w b 62 [.pointer p,.int .i64 n])(hc:PC w p kH) :
  fM (more w b p ((kH.reverse.flatten.length:Int)+(s.length:Int)) (strOf s)) b (kH.reverse.flatten++s)/\w.grownBy (more w b p ((kH.reverse.flatten.length:Int)+(s.length:Int)) (strOf s)) (some b):=by
 have ak:=am.lt;have aD:w.grownBy (more w b p ((kH.reverse.flatten.length:Int)+(s.length:Int)) (strOf s)) (some b):=
  iD (hz (hz (dl _ _) _ _) _ _) _
 refine⟨⟨some ⟨w.heap.size,0,none⟩,s :: kH,?_,⟨w.heap.size,p,rfl,?_,ap,hc.keep (Z2 aD (λg e=>?_))⟩,by simp⟩,aD⟩
 .have h1:=((am.bm 0 (.pointer (some ⟨w.heap.size,0,none⟩))).bm 1 (.int .i64 ((kH.reverse.flatten.length:Int)+(s.length:Int)))).alloc (.cells #[.pointer p,.string (strOf s)] 103);rw[aY,Int.natCast_add];exact h1
 .have h1:=Row.new ((w.setCell ⟨b,0,none⟩ (.pointer (some ⟨w.heap.size,0,none⟩))).setCell ⟨b,1,none⟩ (.int .i64 ((kH.reverse.flatten.length:Int)+(s.length:Int)))) 103 [.pointer p,.string (strOf s)];simpa [more]using h1
 .injection e with e
  subst e;exact am.s7 (by decide)
theorem atf(b:Nat)(bs s:ae)(w:ai)(ap:s≠[])(hl:bs.length+s.length<=1000000000)(h:fM w b bs) :
  Calls prog 33 #[.pointer (some ⟨b,0,none⟩),.string (strOf s)] w λe w'=>e=.returned (.pointer (some ⟨b,0,none⟩))/\fM w' b (bs++s)/\w.grownBy w' (some b):=by
 obtain⟨p,kH,am,hc,e⟩:=h;have hend:=agN s ap am hc;have c0:=am.cell 0;have c1:=am.cell 1;have f0:=am.free 0;have f1:=am.free 1;have dY:=am.lt;simp only[dR,dU]at c0 c1;rw[<-e]at hend;have he:(strOf s).toList.isEmpty=false:=by rw[vl];simp[ap]
 have bI:=cZ s;have dw:=I hend;clear hend am hc e ap;generalize strOf s=str at he bI dw ⊢;go_enter func33,ntmps33
 go_wp2;go_ret;exact⟨rfl,dw.out.1,dw.out.2⟩
theorem uA(b:Nat)(bs s:ae)(w:ai)(hl:bs.length+s.length<=1000000000)(h:fM w b bs) :
  Calls prog 33 #[.pointer (some ⟨b,0,none⟩),.string (strOf s)] w λe w'=>e=.returned (.pointer (some ⟨b,0,none⟩))/\fM w' b (bs++s)/\w.grownBy w' (some b):=by
 by_cases ap:s=[]
 .subst ap;exact(ate _ w).mono λe w' ⟨he,hw⟩=>by subst hw;exact⟨he,by rw[append_nil];exact h,dl _ _⟩
 .exact atf b bs s w ap hl h
theorem ahD(v m:Nat)(h:m<=8):(ik (List.replicate 8 0) 0 8 v).take m=ao.bytesOf v m:=by
 have e:ik (List.replicate 8 0) 0 8 v=ao.bytesOf v 8:=by simp[ik]
 rw[e,ao.bytesOf_take _ _ _ h]
theorem apQ{w:ai}{g k v:Nat}{ag:ae}{t:TypeId}(hl:k<ag.length)(h:Row w g t (aN (ik ag 0 k v))) :
  Row (w.setCell ⟨g,k,none⟩ (.int .u8 ((v/256^k%256:Nat):Int))) g t (aN (ik ag 0 (k+1) v)):=by
 have h1:=h.bm k (.int .u8 ((v/256^k%256:Nat):Int));have af:=Ut ag 0 k v (by omega);rw[eH]at af;rw[B9,af]at h1;exact h1
theorem Li{w:ai}{g m c:Nat}{t:TypeId}{ag:ae}(h:Row w g t (aN ag))(hm:m<=ag.length)(av:∀x∈ag,x<256) :
  (convert 87 9 (.slice (some ⟨g,0,none⟩) m c)).run prog w=.ok (.string (strOf (ag.take m))) w:=by
 have h1:=o3 w (some ⟨g,0,none⟩) c (ag.take m) (p3 av m) (λ_=>⟨g,0,rfl,λj ar=>by
  have Bm:j<m:=by simp[aN]at ar;omega
  rw[eH,h.cell j];simp[aN,Bm]⟩)
 rw[cq,Nat.min_eq_left hm]at h1;exact h1
theorem aqP(g m:Nat)(W:ai)(h:m<=8):(Instr.sliceAt 101 (.pointer (some ⟨g,0,none⟩)) none (some (.int .i64 m)) none).run prog W=.ok (.slice (some ⟨g,0,none⟩) m 8) W:=by
 have hl:prog.arrayLen 101=8:=by kernel_rfl
 have he:prog.elem 101=5:=by kernel_rfl
 rw[run_sliceAt_array_h W 101 ⟨g,0,none⟩ (by kernel_rfl) .i64 m (by omega) (by rw[hl];omega),hl,he];go_simp
theorem ei{w au aB:ai}{row:Option Nat}(h:w.grownBy au row)(af:au.grownBy aB row):w.grownBy aB row:=
 ⟨af.os.trans h.os,af.tape.trans h.tape,af.output.trans h.output,du h.size af.size,λi ax az=>(af.block i (gV ax h.size) az).trans (h.block i ax az)⟩
theorem I9(b v:Nat)(n:Int)(bs:ae)(w:ai)(hp:-9223372036854775808<=n)(iZ:n<=9223372036854775807)(aE:v<2^64)(hl:bs.length<=100000000)(h:fM w b bs) :
  Calls prog 31 #[.pointer (some ⟨b,0,none⟩),.int .u64 v,.int .i64 n] w λe w'=>e=.returned (.pointer (some ⟨b,0,none⟩))/\fM w' b (bs++ao.bytesOf v (hi n))/\w.grownBy w' (some b):=by
 have eh:=UE n;have bk:=I (λw=>TF n w hp iZ);have FP:=I h;have e1:=I hl;have aD:Row (w.alloc (.cells (aN (List.replicate 8 0)).toArray 101)) w.heap.size 101 (aN (List.replicate 8 0)):=Row.new w _ _;have kp:=I aD;have nT:v<=18446744073709551615:=by omega
 clear h hl aD aE;generalize hi n=m at eh bk ⊢;go_enter func31,ntmps31
 go_wp2;go_loopw [9] (λi wr=>∃k:Nat,k<=8/\i=.int .i64 k/\Hid (Row wr w.heap.size 101 (aN (ik (List.replicate 8 0) 0 k v)))/\Hid (Below w.heap.size w wr)) (λi _=>8-(intOf i).toNat)
 case atStart=>exact⟨0,by omega,rfl,kp.out,dQ.alloc bh _⟩
 case round=>
  obtain⟨k,hk,rfl,hrow,hbel⟩:=hrel;have hlen:(ik (List.replicate 8 0) 0 k v).length=8:=by rw[Us _ _ _ _ (by simp;omega)];simp
  by_cases av:k<8
  .have hcell:=hrow.out.cell k;have hfree:=hrow.out.free k;rw[jF _ _ (by omega)]at hcell;generalize (ik (List.replicate 8 0) 0 k v)[k]=old at hcell;clear hlen;go_wp2;rw[Tp];go_roundw
   case rel=>exact⟨k+1,by omega,by go_num,apQ (by simp;omega) hrow.out,hbel.out.setCell bh _⟩
   case measure=>simp[intOf];omega
  .obtain rfl:k=8:=by omega
   have eD:=Li (m:=m) (c:=8) hrow.out (by omega) (λx ah=>by
    simp[ik]at ah;exact u9 _ _ x ah)
   rw[ahD _ _ eh]at eD;have rj:=FP.out.below hbel.out;have Bq:bs.length+(ao.bytesOf v m).length<=1000000000:=by rw[ao.bytesOf_length];have:=e1.out;omega
   have ef:=I (uA b bs _ wr Bq rj);have fU:=aqP w.heap.size m wr eh;have jH:=I (dr hbel.out (some b));clear hlen Bq rj av;generalize strOf (ao.bytesOf v m)=str at eD ef;go_wp2_with fail
   refine(bk.out _).mono ?_;rintro e w' ⟨rfl,rfl⟩;go_wp2_with fail
   refine ef.out.mono ?_;rintro e w' ⟨rfl,aiW,ajt⟩;go_wp2;go_ret;exact⟨rfl,aiW,ei jH.out ajt⟩
theorem oo(w:ai)(l:ae)(av:∀x∈l,x<256):∃aB cap,(convert 9 87 (.string (strOf l))).run prog w=.ok (.slice (some ⟨w.heap.size,0,none⟩) l.length cap) aB /\
  (∀j (h:j<l.length),aB.cell? ⟨w.heap.size,j,none⟩=some (.int .u8 (l[j]:Int)))/\Below w.heap.size w aB:=by
 have h:=run_bytes_of_string (P:=prog) w 9 87 5 (strOf l) underlying9 underlying87 underlying5;rw[cZ]at h;refine⟨_,_,h,?_,?_⟩
 .intro j ar;have ap:j<(strOf l).data.size:=by simp[strOf];exact ar
  have h1:=bytesRow_at (strOf l) (grownCap w l.length 0 5) j ap;have e:(strOf l).data[j]=UInt8.ofNat l[j]:=by simp[strOf]
  rw[e,UInt8.toNat_ofNat_of_lt' (av _ (b7 ar))]at h1;rw[cell_of_row _ w.heap.size j _ _ _ (heap_alloc_new w.drew _)];exact h1
 .exact dQ.drew.alloc bh _
theorem B5(b:Nat)(st:Left)(most:Int)(w:ai)(ip:-9223372036854775808<=most)(l8:most<=9223372036854775807)(cW:pA st)(h:bJ w b st) :
  Calls prog 40 #[.pointer (some ⟨b,0,none⟩),.int .i64 most] w λe w'=>e=.returned (.int .i64 ((lQ most st).1:Int))/\bJ w' b (lQ most st).2/\w.grownBy w' (some b):=by
 have kp:=I (apz b st w cW h);have hok2:=ZG cW;unfold lQ;obtain⟨v,tf,oy⟩:∃v tf,lI st=(v,tf):=⟨_,_,rfl⟩;rw[oy]at kp hok2 ⊢;have aE:=hok2.2;clear hok2 oy h cW;rcases tf with _ | l
 .rw[aA (.inl rfl)];go_enter func40,ntmps40
  go_wp2_with fail
  refine kp.out.mono ?_;rintro e au ⟨rfl,fh,cP⟩;have bO:=I (gB b none au fh);go_wp2_with fail
  refine bO.out.mono ?_;rintro e w' ⟨rfl,rfl⟩;go_wp2;go_ret;exact⟨rfl,fh,cP⟩
 .by_cases hneg:most<0
  .rw[aA (.inr (.inl hneg))];go_enter func40,ntmps40
   go_wp2_with fail
   refine kp.out.mono ?_;rintro e au ⟨rfl,fh,cP⟩;have bO:=I (gB b _ au fh);have bk:=I (IG b _ au fh);have jH:=I cP;clear fh cP;go_wp2_with fail
   refine bO.out.mono ?_;rintro e w' ⟨rfl,rfl⟩;go_wp2_with fail
   refine bk.out.mono ?_;rintro e aB ⟨rfl,fh,cP⟩;go_wp2;go_ret;exact⟨rfl,fh,ei jH.out cP⟩
  .obtain⟨m,rfl⟩:=Int.eq_ofNat_of_zero_le (show 0<=most by omega);by_cases nr:m<v
   .rw[aA (.inr (.inr (by show((m:Nat):Int)<((v:Nat):Int);omega)))];clear aE;go_enter func40,ntmps40
    go_wp2_with fail
    refine kp.out.mono ?_;rintro e au ⟨rfl,fh,cP⟩;have bO:=I (gB b _ au fh);have bk:=I (IG b _ au fh);have jH:=I cP;clear fh cP;go_wp2_with fail
    refine bO.out.mono ?_;rintro e w' ⟨rfl,rfl⟩;go_wp2_with fail
    refine bk.out.mono ?_;rintro e aB ⟨rfl,fh,cP⟩;go_wp2;go_ret;exact⟨rfl,fh,ei jH.out cP⟩
   .rw[ay (by show ¬(some l=none\/((m:Nat):Int)<0\/((m:Nat):Int)<((v:Nat):Int));simp;omega)];have X3:v<=m:=by omega
    clear aE nr;go_enter func40,ntmps40
    go_wp2_with fail
    refine kp.out.mono ?_;rintro e au ⟨rfl,fh,cP⟩;have bO:=I (gB b _ au fh);have Cu:=I fh;have jH:=I cP;clear fh cP;go_wp2_with fail
    refine bO.out.mono ?_;rintro e w' ⟨rfl,rfl⟩;go_wp2;go_ret;exact⟨rfl,Cu,jH⟩
theorem E9(b:Nat)(st:Left)(most:Int)(w:ai)(ip:-9223372036854775808<=most)(l8:most<=9223372036854775807)(cW:pA st)(h:bJ w b st) :
  Calls prog 112 #[.pointer (some ⟨b,0,none⟩),.int .i64 most] w λe w'=>e=.returned (.string (strOf (tj most st).1))/\bJ w' b (tj most st).2/\w.grownBy w' (some b):=by
 have qV:=I (B5 b st most w ip l8 cW h);unfold tj;obtain⟨v,tf,oy⟩:∃v tf,lQ most st=(v,tf):=⟨_,_,rfl⟩;rw[oy]at qV ⊢;have aj:∀au,bJ au b tf->_:=λau h1=>tc b tf (v:Int) au h1
 rw[cY]at aj;have aU:=I aj;clear oy h cW aj ip l8;go_enter func112,ntmps112
 go_wp2_with fail
 refine qV.out.mono ?_;rintro e au ⟨rfl,fh,cP⟩;have jH:=I cP;have Cu:=I (aU.out au fh);clear fh cP;go_wp2_with fail
 refine Cu.out.mono ?_;rintro e aB ⟨rfl,fh,cP⟩;go_wp2;go_ret;exact⟨rfl,fh,ei jH.out cP⟩
theorem ang(l:ae)(k:Nat)(hk:k<l.length)(fK:l.length<=8)(av:∀x∈l,x<256) :
  bits .or .u64 ((bd (l.take k):Nat):Int) (IntKind.u64.wrap ((l[k]:Int)*2^(8*k)))=((bd (l.take (k+1)):Nat):Int):=by
 have hlen:(l.take k).length=k:=by rw[cq];omega
 have aE:=po (l.take k) (p3 av k);rw[hlen,ib]at aE;have ak:=av l[k] (b7 hk);have aw:(2:Nat)^(8*k)<=2^56:=dD (by omega) (by omega);have nT:l[k]*2^(8*k)<2^64:=by
  have:=Nat.mul_le_mul (show l[k]<=255 by omega) aw;omega
 rw[or_val _ _ _ (by omega),mod_eq_of_lt nT,zN _ _ _ aE,gb hk,Fv,hlen,ib]
theorem E6(b:Nat)(st:Left)(n:Int)(w:ai)(hp:-9223372036854775808<=n)(iZ:n<=9223372036854775807)(cW:pA st)(h:bJ w b st) :
  Calls prog 39 #[.pointer (some ⟨b,0,none⟩),.int .i64 n] w λe w'=>e=.returned (.int .u64 (bd (eR (hi n) st).1:Int))/\bJ w' b (eR (hi n) st).2/\w.grownBy w' (some b):=by
 have eh:=UE n;have gq:=I (TF n w hp iZ);have aj:=tc b st (hi n:Int) w h;rw[cY]at aj;have hok2:=ZH (n:=hi n) cW;generalize hi n=m at *;obtain⟨l,tf,oy⟩:∃l tf,eR m st=(l,tf):=⟨_,_,rfl⟩;rw[oy]at aj hok2 ⊢;have av:=hok2.2.1;have zj:l.length<=8:=du hok2.2.2 eh;have aU:=I aj;have b5:=I av;obtain⟨res,hres⟩:∃r,r=bd l:=⟨_,rfl⟩;rw[<-hres];have bt:=I hres;clear aj hok2 cW h oy av hp iZ eh hres;go_enter func39,ntmps39
 go_wp2_with fail
 refine gq.out.mono ?_;rintro e w' ⟨rfl,rfl⟩;go_wp2_with fail
 refine aU.out.mono ?_;rintro e au ⟨rfl,fh,cP⟩;obtain⟨aB,cap,eD,hcells,hbel⟩:=oo au l b5.out;have mM:=fh.lt;have Cu:=I (fh.below hbel);have jH:=I (ei cP (dr hbel (some b)));have qR:=I hcells;have wN:=I (λk hk=>ang l k hk zj b5);clear fh cP hcells hbel;obtain⟨g,aD⟩:∃g,g=au.heap.size:=⟨_,rfl⟩;rw[<-aD]at eD qR;clear aD;generalize strOf l=s at eD ⊢;obtain⟨N,cV⟩:∃N,N=l.length:=⟨_,rfl⟩;rw[<-cV]at eD zj;have g6:=I cV;clear cV;go_wp2;go_loop [5,14] (λv i=>∃k V:Nat,k<=N/\i=.int .i64 k/\v=.int .u64 V/\Hid (V=bd (l.take k))) (λ_ i=>N-(intOf i).toNat)
 case atStart=>exact⟨0,0,by omega,rfl,rfl,rfl⟩
 case round=>
  obtain⟨k,V,hk,rfl,rfl,bY⟩:=hrel;by_cases av:k<N
  .have eu:k<l.length:=by rw[<-g6.out];exact av
   have hc:=qR.out k eu;have tY:=b5.out l[k] (b7 eu);have sL:=wN.out k eu;rw[<-bY.out]at sL;have R1:=I sL;clear sL;generalize l[k]=c at hc tY R1;clear eu;go_wp2;rw[R1.out];go_round
   case rel=>exact⟨k+1,_,by omega,by go_num,rfl,rfl⟩
   case measure=>simp[intOf];omega
  .obtain rfl:k=N:=by omega
   have aiA:V=res:=by rw[bY.out,g6.out,take_length,bt.out]
   subst aiA;go_wp2;go_ret;exact⟨rfl,Cu,jH⟩
theorem UG(t:ae)(am:0<(aW t).2):lI (some t)=((aW t).1,some (t.drop (aW t).2)):=by
 simp only[lI,aA am]
theorem ahX(t:ae)(am:¬0<(aW t).2):lI (some t)=(0,none):=by
 simp only[lI,ay am]
theorem xP(m:Int)(t:ae)(am:0<(aW t).2)(hm:((aW t).1:Int)<=m):lQ m (some t)=((aW t).1,some (t.drop (aW t).2)):=by
 unfold lQ;rw[UG t am,ay];rintro(h | h | h)
 .cases h
 .omega
 .dsimp only at h;omega
theorem BN(m:Int)(t:ae)(h:¬(0<(aW t).2/\((aW t).1:Int)<=m)):lQ m (some t)=(0,none):=by
 unfold lQ;by_cases am:0<(aW t).2
 .rw[UG t am,aA];by_cases hm:m<0
  .exact .inr (.inl hm)
  .exact .inr (.inr (by dsimp only;omega))
 .rw[ahX t am,aA (.inl rfl)]
theorem ar1(t:ae)(h:0<(aW t).2/\(aW t).1<=t.length-(aW t).2)(_:t.length<=100000000) :
  tj 9223372036854775807 (some t)=((t.drop (aW t).2).take (aW t).1,some (t.drop ((aW t).2+(aW t).1))):=by
 unfold tj;rw[xP 9223372036854775807 t h.1 (by omega)];simp only[eR];rw[aA (by rw[cC];exact h.2),drop_drop]
theorem ar0(t:ae)(h:¬(0<(aW t).2/\(aW t).1<=t.length-(aW t).2))(_:t.length<=100000000) :
  tj 9223372036854775807 (some t)=([],none):=by
 unfold tj;by_cases am:0<(aW t).2/\((aW t).1:Int)<=9223372036854775807
 .rw[xP 9223372036854775807 t am.1 am.2];simp only[eR];rw[ay (by rw[cC];omega)]
 .rw[BN 9223372036854775807 t am];rfl
theorem apo{w w':ai}{b:Nat}{st:Left}{A:a7}{l:ae}(h:bJ w b st)(aj:Reads w A (aM l))(aD:w.grownBy w' (some b)):Reads w' A (aM l):=λaX=>by
 obtain⟨g,off,rfl,hc⟩:=aj aX;refine⟨g,off,rfl,λj ar=>?_⟩;have h1:=hc j ar;rw[gw]at ar;rw[ja l j ar]at h1 ⊢;refine aD.cell h1 (λe=>?_);injection e with e
 dsimp only at e;subst e;have af:=(Row.cell h (off+j)).symm.trans h1;have iF:∀(m:Nat) (z:Int),(qF st)[m]?≠some (.int .i64 z):=by
  intro m z ah;rcases st with _ | bs
  all_goals
   match m,ah with
   | 0,ah=>simp[qF]at ah
   | 1,ah=>simp[qF]at ah
   | m+2,ah=>simp[qF]at ah
 exact iF _ _ af
theorem Ha(k:Nat)(r:ae):eR (hi 1) (some (k :: r))=([k],some r):=by
 rw[show hi 1=1 by decide];simp[eR]
theorem E4(n:Nat)(t:ae)(h:n<=t.length):eR n (some t)=(t.take n,some (t.drop n)):=by
 simp only[eR,aA h]
theorem E3(n:Nat)(t:ae)(h:¬n<=t.length):eR n (some t)=([],none):=by
 simp only[eR,ay h]
theorem aqV(w:ai):Calls prog 44 #[] w λe w'=>e=.returned (.agg #[.int .u64 7640891576956012808,.int .u64 0])/\Below w.heap.size w w':=by
 go_enter func44,ntmps44
 go_wp2;refine bodyPost_ret (v:=.agg #[.int .u64 7640891576956012808,.int .u64 0]) (by simp[results,results44,go_sem]) rfl ⟨rfl,?_⟩;exact dQ.alloc bh _
theorem aqf(h n b:Nat)(w:ai)(hh:h<18446744073709551616)(ak:b<256) :
  Calls prog 75 #[.agg #[.int .u64 h,.int .u64 n],.int .u8 b] w λe w'=>e=.returned (.agg #[.int .u64 (uw h b),.int .u64 (((n+1)%18446744073709551616:Nat):Int)])/\Below w.heap.size w w':=by
 have aF:=aa7 h b hh ak;have e2:=aa8 h b;generalize s5 h b=m at aF e2;generalize uw h b=r at e2 ⊢;go_enter func75,ntmps75
 go_wp2;refine bodyPost_ret (v:=.agg #[.int .u64 r,.int .u64 (IntKind.u64.wrap ((n:Int)+1))]) (by simp[results,results75,go_sem]) rfl ⟨?_,?_⟩
 .rw[IntKind.wrap_u64];simp
 .exact(dQ.alloc bh _).alloc (by simp) _
theorem aq0(h n:Nat)(w:ai):Calls prog 46 #[.agg #[.int .u64 h,.int .u64 n]] w λe w'=>e=.returned (.int .u64 (zV h n))/\Below w.heap.size w w':=by
 have aF:=abq h n;have e2:=abr h n;generalize s6 h n=m at aF e2;generalize zV h n=r at e2 ⊢;go_enter func46,ntmps46
 go_wp2;go_ret;exact⟨rfl,dQ.alloc bh _⟩
def rG(h n:Nat):b3:=[.int .u64 h,.int .u64 n]
theorem Row.state{w:ai}{b h n kg ER:Nat}(aj:Row w b 79 (rG h n)):Row ((w.setCell ⟨b,0,none⟩ (.int .u64 kg)).setCell ⟨b,1,none⟩ (.int .u64 ER)) b 79 (rG kg ER):=
 (aj.bm 0 (.int .u64 kg)).bm 1 (.int .u64 ER)
theorem aqc(h n:Nat)(l:ae)(w:ai)(hh:h<18446744073709551616)(az:n<18446744073709551616)(hl:l.length<=1000000000)(av:∀x∈l,x<256) :
  Calls prog 45 #[.agg #[.int .u64 h,.int .u64 n],.string (strOf l)] w λe w'=>e=.returned (.agg #[.int .u64 (kx h l),.int .u64 (((n+l.length)%18446744073709551616:Nat):Int)])/\Below w.heap.size w w':=by
 have bI:=cZ l;have hidx:∀(i:Nat) (W:ai) (ax:i<l.length),(Instr.index 9 (.string (strOf l)) (.int .i64 i)).run prog W=.ok (.int .u8 ((l[i]:Nat):Int)) W:=λi W ax=>pT l i W ax (av _ (b7 ax))
 have ic:=I hidx;have b5:=I av;have bX:=I az;have hres:∀k,k<l.length->uw (kx h (l.take k)) (l[k]?.getD 0)=kx h (l.take (k+1)):=λk hk=>by
  rw[LM h l k hk];simp[hk]
 have bt:=I hres;have yp:=I (λk=>UC h (l.take k) hh);obtain⟨r,aj⟩:∃r,r=kx h l:=⟨_,rfl⟩;rw[<-aj];have aU:=I aj;obtain⟨N,cV⟩:∃N,N=(n+l.length)%18446744073709551616:=⟨_,rfl⟩;rw[<-cV];have g6:=I cV;clear cV;clear hidx av az hres aj;generalize strOf l=s at bI ic ⊢;go_enter func45,ntmps45
 go_wp2;go_loopw [5,8] (λx i wr=>∃k:Nat,k<=l.length/\i=.int .i64 k/\Hid (Row wr w.heap.size 79 (rG (kx h (l.take k)) ((n+k)%18446744073709551616)))/\Hid (Row wr (w.heap.size+1) 79 (rG 0 0))/\Hid (Below w.heap.size w wr)) (λ_ i _=>l.length-(intOf i).toNat)
 case atStart=>
  refine⟨0,by omega,rfl,?_,?_,?_⟩
  .rw[show(n+0)%18446744073709551616=n from mod_eq_of_lt bX.out];exact(Row.new w 79 (rG h n)).alloc _
  .have af:=Row.new (w.alloc (.cells #[.int .u64 h,.int .u64 n] 79)) 79 (rG 0 0);rw[show(w.alloc (.cells #[.int .u64 h,.int .u64 n] 79)).heap.size=w.heap.size+1 by simp]at af;exact af
  .exact(dQ.alloc bh _).alloc (by simp) _
 case round=>
  obtain⟨k,hk,rfl,hrow,hrow2,hbel⟩:=hrel;by_cases bb:k<l.length
  .have ah:=λW=>ic.out k W bb
   have jz:=λm W=>aqf (kx h (l.take k)) m l[k] W (yp.out k) (b5.out _ (b7 bb))
   rw[show uw (kx h (l.take k)) l[k]=kx h (l.take (k+1)) by rw[LM h l k bb]]at jz;have eA:=I (λm=>show((n+k)%18446744073709551616+1)%18446744073709551616=m->m=(n+(k+1))%18446744073709551616 from λe=>by omega);generalize (n+k)%18446744073709551616=m at hrow eA;have jz:=jz m;generalize hm:(m+1)%18446744073709551616=pg at jz;have ci:=I (eA.out pg hm);have jX:=I jz;clear hm eA jz ic b5 bt;generalize l[k]=b at ah jX;generalize kx h (l.take k)=y at jX hrow;generalize Yg:kx h (l.take (k+1))=ats at jX;have aec:=I Yg;clear Yg yp;have c0:=hrow.out.cell 0;have c1:=hrow.out.cell 1;simp only[rG,dR,dU]at c0 c1;go_wp2;go_still_tail 4,(by kernel_rfl)
   change wpList _ _ _ _ _ wr.drew;clear ah c0 c1;have hrow':Row wr.drew w.heap.size 79 (rG y m):=hrow.out;have Xj:Row wr.drew (w.heap.size+1) 79 (rG 0 0):=hrow2.out;have Hw:Below w.heap.size w wr.drew:=hbel.out.drew;have da:=I hrow';have gh:=I Xj;have gE:=I Hw;clear hrow hrow2 hbel hrow' Xj Hw;generalize wr.drew=au at da gh gE ⊢;go_wp2_with fail
   refine(jX.out au).mono ?_;rintro e aB ⟨rfl,aI⟩;have hrow:=da.out.below aI;have kq:=I hrow;have r3:=I (gh.out.below aI);have rU:=b9 gE aI;have c0:=hrow.cell 0;have c1:=hrow.cell 1;simp only[rG,dR,dU]at c0 c1;have f0:=hrow.free 0;have f1:=hrow.free 1;clear hrow aI da gh gE;go_wp2;go_roundw
   case rel=>
    refine⟨k+1,by omega,by go_num,?_,?_,?_⟩
    .rw[aec.out,<-ci.out];exact kq.out.state
    .exact(r3.out.cG (by simp) _).cG (by simp) _
    .exact(rU.out.setCell bh _).setCell bh _
   case measure=>simp[intOf];omega
  .obtain rfl:k=l.length:=by omega
   rw[take_length,<-aU.out,<-g6.out]at hrow;clear g6 aU;have c0:=hrow.out.cell 0;have c1:=hrow.out.cell 1;have d0:=hrow2.out.cell 0;have d1:=hrow2.out.cell 1;simp only[rG,dR,dU]at c0 c1 d0 d1;have f0:=hrow2.out.free 0;have f1:=hrow2.out.free 1;clear hrow;have s0:=(hrow2.out.bm 0 (.int .u64 r)).cell 0;have s1:=((hrow2.out.bm 0 (.int .u64 r)).bm 1 (.int .u64 N)).cell 1;simp only[rG,set_cons_zero,set_cons_succ,dR,dU]at s0 s1;have eg:=I s0;have c6:=I s1;clear s0 s1;go_wp2;have s0:=eg.out;have s1:=c6.out;refine bodyPost_ret (v:=.agg #[.int .u64 r,.int .u64 N]) (by simp[results,results45,go_sem,s0,s1]) rfl ⟨rfl,?_⟩;exact(hbel.out.setCell (by simp) _).setCell (by simp) _
theorem Yu:(prog.info? 3).map (λi=>(i.zero,i.size,i.bytes))=some (some (.int .i64 0),1,8):=by kernel_rfl
theorem apK(v n:Nat)(w:ai)(aE:v<4294967296)(az:n<=32) :
  Calls prog 121 #[.int .u32 v,.int .i64 n] w λe w'=>
   ∃u,e=.returned u/\w'.ownsRow w.heap.size 3 1 u n (aM (ao.bitsOf v n))/\Below w.heap.size w w'/\(n=0->u=.slice none 0 0):=by
 obtain⟨i0,ax,bB,bK,bw⟩:=info_parts Yu;go_enter func121,ntmps121
 go_wp2;go_loopw [5,6] (λu i wr=>∃k:Nat,k<=n/\i=.int .i64 k/\wr.ownsRow w.heap.size 3 1 u k (aM (ao.bitsOf v k))/\Below w.heap.size w wr/\(k=0->u=.slice none 0 0)) (λ_ i _=>n-(intOf i).toNat)
 case atStart=>exact⟨0,zero_le _,rfl,World.ownsRow_nil _ _ _ _,Below.refl _ _,λ_=>rfl⟩
 case round=>
  obtain⟨k,hk,rfl,hown,hbel,hnil⟩:=hrel;have dg:0<=(v:Int)/2^k:=Int.ediv_nonneg (by omega) (by exact_mod_cast zero_le (2^k));have aH:(v:Int)/2^k<=4294967295:=by
   have h1:(v:Int)/2^k=((v/2^k:Nat):Int):=by simp
   have af:=div_le_self v (2^k);omega
  by_cases av:k<n
  .go_wp2_with (at_builtin;refine wpList_append_own _ rfl _ _ 112 rfl w.heap.size 3 i0 (.int .i64 0) 1 8 underlying112 ax bB bK bw rfl (by decide) _ _ _ rfl (hown.alloc _) ⟨wr.heap.size,0,none⟩ 1 1 [.int .i64 ((v:Int)/2^k%2)] rfl rfl ?c1 ?c2 ?c3 ?c4 ?c5 ?_)
   case c1=>
    intro j u ar;match j,ar with
    | 0,ar=>simp at ar;subst ar;simp[Addr.add]
   case c2=>intro u hu;simp at hu;subst hu;rfl
   case c3=>unfold maxLen;omega
   case c4=>omega
   case c5=>have:=hbel.size;simp;omega
   intro gZ au hown' hgrow _;have e:aM (ao.bitsOf v k)++[Value.int .i64 ((v:Int)/2^k%2)]=aM (ao.bitsOf v (k+1)):=by
    rw[afe];simp[aM]
   rw[e]at hown';have h6:Below w.heap.size w au:=(hbel.alloc hbel.size _).grown hgrow (by have:=hbel.size;simp;omega) (λq hq=>(hown.lt q hq).1);have hQ:=I hown';have bO:=I h6;clear hown' h6 hgrow hown hbel e;go_wp2;go_roundw
   case rel=>exact⟨k+1,by omega,by go_num,hQ.out,bO.out,λh=>by omega⟩
   case measure=>simp[intOf];omega
  .go_wp2;obtain rfl:k=n:=by omega
   go_ret;exact⟨_,rfl,hown,hbel,hnil⟩
theorem apJ(v:Nat)(w:ai)(aE:v<4294967296) :
  Calls prog 121 #[.int .u32 v,.int .i64 8] w λe w'=>
   ∃u,e=.returned u/\w'.ownsRow w.heap.size 3 1 u 8 (aM (ao.bitsOf v 8))/\Below w.heap.size w w'/\(8=0->u=.slice none 0 0):=apK v 8 w aE (by omega)
theorem IE(A:a7)(c:Nat)(bs:ae)(w:ai)(az:bs.length<=100000)(cr:∀b∈bs,b<256)(aj:Reads w A (aN bs))(hA:∀a,A=some a->0<bs.length->a.block<w.heap.size) :
  Calls prog 80 #[.slice A bs.length c] w λe w'=>
   ∃u,e=.returned u/\w'.ownsRow w.heap.size 3 1 u (8*bs.length) (aM (ao.bitsOf (bd bs) (8*bs.length)))/\Below w.heap.size w w':=by
 obtain⟨i0,ax,bB,bK,bw⟩:=info_parts Yu;have hcells:∀k,(hk:k<bs.length)->∃g off,A=some ⟨g,off,none⟩/\g<w.heap.size/\w.cell? ⟨g,off+k,none⟩=some (.int .u8 ((bs[k]:Nat):Int)):=by
  intro k hk;obtain⟨g,off,e,hc⟩:=nA aj (by intro h;rw[h]at hk;simp at hk);exact⟨g,off,e,hA _ e (by omega),hc k hk⟩
 have qR:=I hcells;have px:=I cr;clear hcells aj hA cr;go_enter func80,ntmps80
 go_wp2;go_loopw [3,4] (λu i wr=>∃k:Nat,k<=bs.length/\i=.int .i64 k/\wr.ownsRow w.heap.size 3 1 u (8*k) (aM (ao.bitsOf (bd (bs.take k)) (8*k)))/\Below w.heap.size w wr) (λ_ i _=>bs.length-(intOf i).toNat)
 case atStart=>exact⟨0,zero_le _,rfl,World.ownsRow_nil _ _ _ _,Below.refl _ _⟩
 case round=>
  obtain⟨k,hk,rfl,hown,hbel⟩:=hrel;by_cases av:k<bs.length
  .obtain⟨g,off,rfl,aD,h7⟩:=qR.out k av;have hc:wr.cell? ⟨g,off+k,none⟩=some (.int .u8 ((bs[k]:Nat):Int)):=(hbel.cell (p:=⟨g,off+k,none⟩) aD).trans h7;have lf:=px.out bs[k] (b7 av);have hstep:=afh (bs.take k) bs[k] (λx ah=>px.out x (mem_of_mem_take ah)) lf;rw[cq,Nat.min_eq_left (Nat.le_of_lt av),<-gb av]at hstep;have kd:=I hstep;clear h7 qR px hstep;generalize bs[k]=x at hc lf kd;go_wp2_with fail
   refine(apJ x _ (by omega)).mono ?_;rintro e au ⟨gZ,rfl,hu,aH,_⟩;obtain⟨g1,AU,hform,_,_⟩:=Iq hu (by omega);have hnews:∀j q,(aM (ao.bitsOf x 8))[j]?=some q->au.cell? ((⟨g1,0,none⟩:Addr).add j)=some q:=hu.cells (by rw[hform];rfl);have hown1:=own_below hown aH;rw[hform];have Hx:Below w.heap.size w au:=hbel.trans (aH.mono hbel.size);clear hform hu hown hbel hc;go_wp2_with (at_builtin;refine wpList_append_own _ rfl _ _ 112 rfl w.heap.size 3 i0 (.int .i64 0) 1 8 underlying112 ax bB bK bw rfl (by decide) _ _ _ rfl hown1 ⟨g1,0,none⟩ 8 AU (aM (ao.bitsOf x 8)) rfl ?c0 hnews ?c2 ?c3 ?c4 ?c5 ?_)
   case c0=>simp[gw,hf]
   case c2=>intro u hu;simp[aM]at hu;obtain⟨a,_,rfl⟩:=hu;rfl
   case c3=>unfold maxLen;omega
   case c4=>omega
   case c5=>exact Hx.size
   intro u2 aB hown' hgrow _;rw[EC,kd.out,show 8*k+8=8*(k+1) by omega]at hown';have h6:Below w.heap.size w aB:=Hx.grown hgrow Hx.size (λq hq=>(hown1.lt q hq).1);have hQ:=I hown';have bO:=I h6;clear hown' h6 hgrow hown1 Hx hnews;go_wp2;go_roundw
   case rel=>exact⟨k+1,by omega,by go_num,hQ.out,bO.out⟩
   case measure=>simp[intOf];omega
  .obtain rfl:k=bs.length:=by omega
   rw[take_length]at hown;go_wp2;go_ret;exact⟨_,rfl,hown,hbel⟩
theorem aoR(A:a7)(n c:Nat)(bs:ae)(w:ai)(hl:bs.length=n)(az:n<=100000)(cr:∀b∈bs,b<256)(aj:Reads w A (aN bs))(hA:∀a,A=some a->0<n->a.block<w.heap.size) :
  Calls prog 80 #[.slice A n c] w λe w'=>
   ∃u,e=.returned u/\w'.ownsRow w.heap.size 3 1 u (8*n) (aM (ao.bitsOf (bd bs) (8*n)))/\Below w.heap.size w w':=by
 subst hl;exact IE A c bs w az cr aj hA
theorem amC(v n:Nat)(aE:v<2^64)(az:n<64):bits .and .u64 (v:Int) (IntKind.u64.wrap (IntKind.u64.wrap (2^n)-1))=((v%2^n:Nat):Int):=by
 have aw:2^n<2^64:=Nat.pow_lt_pow_right (by omega) az;have e:((2:Int)^n)=((2^n:Nat):Int):=by simp
 have hpos:=eW n;rw[e,Fs _ aw,show((2^n:Nat):Int)-1=((2^n-1:Nat):Int) by omega,Fs _ (by omega),u64_and_nat _ _ aE (by omega),and_two_pow_sub_one_eq_mod]
theorem Oq(v n:Nat)(w:ai)(aE:v<2^64)(az:n<64) :
  Calls prog 131 #[.int .u64 v,.int .i64 n] w λe w'=>e=.returned (.int .u64 ((v%2^n:Nat):Int))/\w=w':=by
 have hm:=amC v n aE az;have ci:=I hm;clear hm aE;go_enter func131,ntmps131
 go_wp2;go_ret;exact⟨congrArg Ending.returned (congrArg (Value.int .u64) ci),rfl⟩
theorem YX(b off:Nat)(n:Int)(w:ai)(h:w.cell? ⟨b,off+2,none⟩=some (.int .i64 n)) :
  Calls prog 217 #[.pointer (some ⟨b,off,none⟩)] w λe w'=>e=.returned (.int .i64 n)/\w=w':=by
 go_enter func217,ntmps217
 go_wp2;go_ret;exact⟨rfl,rfl⟩
theorem alP(b off:Nat)(s:ByteArray)(n:Nat)(w:ai)(ap:s.size<=1000000000)(az:n<=8*s.size)(am:w.cell? ⟨b,off,none⟩=some (.string s))(h:w.cell? ⟨b,off+1,none⟩=some (.int .i64 n)) :
  Calls prog 188 #[.pointer (some ⟨b,off,none⟩)] w λe w'=>e=.returned (.int .i64 ((8*s.size-n:Nat):Int))/\∃k,w'=w.drewN k:=by
 have ah:(8*(s.size:Int)-n)=((8*s.size-n:Nat):Int):=by omega
 have b2:=I ah;clear ah;go_enter func188,ntmps188
 go_wp2;go_quiet (fail)
 go_wp2;go_ret;exact⟨congrArg Ending.returned (congrArg (Value.int .i64) b2),_,rfl⟩
theorem H0(b off:Nat)(bs:ae)(n:Nat)(w:ai)(ap:bs.length<=1000000000)(az:n<=8*bs.length)(h:eB w b off bs n) :
  Calls prog 188 #[.pointer (some ⟨b,off,none⟩)] w λe w'=>e=.returned (.int .i64 ((8*bs.length-n:Nat):Int))/\∃k,w'=w.drewN k:=by
 have h1:=alP b off (strOf bs) n w (by rw[cZ];exact ap) (by rw[cZ];exact az) h.1 h.2.1;rw[cZ]at h1;exact h1
theorem ath{w:ai}{b off N n rest v m:Nat}{p:a7}{us:ae}(hlow:n%64+m<64)
  (am:w.cell? ⟨b,off,none⟩=some (.pointer p)) (h1:w.cell? ⟨b,off+1,none⟩=some (.int .u64 rest)) (af:w.cell? ⟨b,off+2,none⟩=some (.int .i64 n))
  (f0:w.frozen? ⟨b,off,none⟩=false) (f1:w.frozen? ⟨b,off+1,none⟩=false) (f2:w.frozen? ⟨b,off+2,none⟩=false) (az:k5 w b 192) (hc:Chain w p us) (hw:nf N n rest us) :
  dP ((w.setCell ⟨b,off+1,none⟩ (.int .u64 ((rest ||| v%2^m*2^(n%64)%2^64:Nat):Int))).setCell ⟨b,off+2,none⟩ (.int .i64 ((n+m:Nat):Int))) b off (N+v%2^m*2^n) (n+m) /\
   w.grownBy ((w.setCell ⟨b,off+1,none⟩ (.int .u64 ((rest ||| v%2^m*2^(n%64)%2^64:Nat):Int))).setCell ⟨b,off+2,none⟩ (.int .i64 ((n+m:Nat):Int))) (some b):=by
 have aD:w.grownBy ((w.setCell ⟨b,off+1,none⟩ (.int .u64 ((rest ||| v%2^m*2^(n%64)%2^64:Nat):Int))).setCell ⟨b,off+2,none⟩ (.int .i64 ((n+m:Nat):Int))) (some b):=
  hz (hz (dl _ _) _ _) _ _
 refine⟨⟨p,_,us,?_,?_,?_,?_,?_,?_,(az.setCell _ _).setCell _ _,hc.keep (Qk aD (λg e=>by injection e with e;subst e;exact az)),hw.Pf v m hlow⟩,aD⟩
 .rw[World.cell?_setCell_other _ _ _ _ (by intro e;injection e with _ e _;omega),World.cell?_setCell_other _ _ _ _ (by intro e;injection e with _ e _;omega)];exact am
 .rw[World.cell?_setCell_other _ _ _ _ (by intro e;injection e with _ e _;omega),World.cell?_setCell_same _ _ _ h1]
 .rw[World.cell?_setCell_same _ _ _ (show _=some (.int .i64 n)from by rw[World.cell?_setCell_other _ _ _ _ (by intro e;injection e with _ e _;omega)];exact af)]
 .simpa using f0
 .simpa using f1
 .simpa using f2
theorem Pf(b off N n:Nat)(v m:Nat)(w:ai)(az:n<=1000000000)(aE:v<4294967296)(hm:m<=32)(hlow:n%64+m<64)(h:dP w b off N n) :
  Calls prog 99 #[.pointer (some ⟨b,off,none⟩),.int .u32 v,.int .i64 m] w λe w'=>e=.returned (.bool true)/\dP w' b off (N+v%2^m*2^n) (n+m)/\w.grownBy w' (some b):=by
 obtain⟨p,rest,us,am,h1,af,f0,f1,f2,xB,hc,hw⟩:=h;have aO:=ath (v:=v) (m:=m) hlow am h1 af f0 f1 f2 xB hc hw;have iT:=I aO;have b8:=or_val rest (v%2^m) (n%64) hw.aaq;have At:=I b8;clear aO b8 hc hw xB f0;go_enter func99,ntmps99
 go_wp2_with fail
 refine(Oq v m _ (by omega) (by omega)).mono ?_;rintro e w' ⟨rfl,rfl⟩;go_wp2;go_region
 all_goals go_wp2
 go_ret;rw[Zi,At.out,<-Int.natCast_add];exact⟨rfl,iT.out.1.drew,nR iT.out.2⟩
def D2(w:ai)(b off n rest x m:Nat)(p:a7):ai:=
 ((((w.setCell ⟨b,off+1,none⟩ (.int .u64 ((rest ||| x*2^(n%64)%2^64:Nat):Int))).setCell ⟨b,off+2,none⟩ (.int .i64 ((n+m:Nat):Int))).setCell ⟨b,off,none⟩ (.pointer (some ⟨w.heap.size,0,none⟩))).setCell
  ⟨b,off+1,none⟩ (.int .u64 ((x/2^(64-n%64):Nat):Int))).alloc (.cells #[.pointer p,.int .u64 ((rest ||| x*2^(n%64)%2^64:Nat):Int)] 192)
theorem atg{w:ai}{b off N n rest v m:Nat}{p:a7}{us:ae}(hm:m<=32)(fq:64<=n%64+m)
  (am:w.cell? ⟨b,off,none⟩=some (.pointer p)) (h1:w.cell? ⟨b,off+1,none⟩=some (.int .u64 rest)) (af:w.cell? ⟨b,off+2,none⟩=some (.int .i64 n))
  (f0:w.frozen? ⟨b,off,none⟩=false) (f1:w.frozen? ⟨b,off+1,none⟩=false) (f2:w.frozen? ⟨b,off+2,none⟩=false) (az:k5 w b 192) (hc:Chain w p us) (hw:nf N n rest us) :
  dP (D2 w b off n rest (v%2^m) m p) b off (N+v%2^m*2^n) (n+m)/\w.grownBy (D2 w b off n rest (v%2^m) m p) (some b):=by
 have hW:w.grownBy ((((w.setCell ⟨b,off+1,none⟩ (.int .u64 ((rest ||| v%2^m*2^(n%64)%2^64:Nat):Int))).setCell ⟨b,off+2,none⟩ (.int .i64 ((n+m:Nat):Int))).setCell ⟨b,off,none⟩
   (.pointer (some ⟨w.heap.size,0,none⟩))).setCell ⟨b,off+1,none⟩ (.int .u64 ((v%2^m/2^(64-n%64):Nat):Int))) (some b):=hz (hz (hz (hz (dl _ _) _ _) _ _) _ _) _ _
 have qx:((((w.setCell ⟨b,off+1,none⟩ (.int .u64 ((rest ||| v%2^m*2^(n%64)%2^64:Nat):Int))).setCell ⟨b,off+2,none⟩ (.int .i64 ((n+m:Nat):Int))).setCell ⟨b,off,none⟩
   (.pointer (some ⟨w.heap.size,0,none⟩))).setCell ⟨b,off+1,none⟩ (.int .u64 ((v%2^m/2^(64-n%64):Nat):Int))).heap.size=w.heap.size:=by simp
 have aD:w.grownBy (D2 w b off n rest (v%2^m) m p) (some b):=iD hW _;have ak:=az.lt;have hrow:Row (D2 w b off n rest (v%2^m) m p) w.heap.size 192 [.pointer p,.int .u64 ((rest ||| v%2^m*2^(n%64)%2^64:Nat):Int)]:=by
  have:=Row.new ((((w.setCell ⟨b,off+1,none⟩ (.int .u64 ((rest ||| v%2^m*2^(n%64)%2^64:Nat):Int))).setCell ⟨b,off+2,none⟩ (.int .i64 ((n+m:Nat):Int))).setCell ⟨b,off,none⟩
   (.pointer (some ⟨w.heap.size,0,none⟩))).setCell ⟨b,off+1,none⟩ (.int .u64 ((v%2^m/2^(64-n%64):Nat):Int))) 192 [.pointer p,.int .u64 ((rest ||| v%2^m*2^(n%64)%2^64:Nat):Int)]
  rw[qx]at this;exact this
 have OE:(⟨b,off+1,none⟩:Addr)≠⟨b,off,none⟩:=by intro e;injection e with _ e _;omega
 have Zk:(⟨b,off+2,none⟩:Addr)≠⟨b,off,none⟩:=by intro e;injection e with _ e _;omega
 have OG:(⟨b,off+2,none⟩:Addr)≠⟨b,off+1,none⟩:=by intro e;injection e with _ e _;omega
 refine⟨⟨some ⟨w.heap.size,0,none⟩,_,_ :: us,?_,?_,?_,?_,?_,?_,((((az.setCell _ _).setCell _ _).setCell _ _).setCell _ _).alloc _,⟨_,p,rfl,hrow,hc.keep (Qk aD (λg e=>by injection e with e;subst e;exact az))⟩,hw.Pe v m hm fq⟩,aD⟩ <;>
  unfold D2
 .rw[World.cell?_alloc_lt _ _ _ (by simpa using ak),World.cell?_setCell_other _ _ _ _ OE];exact World.cell?_setCell_same _ _ _ (u:=.pointer p) (by rw[World.cell?_setCell_other _ _ _ _ Zk,World.cell?_setCell_other _ _ _ _ OE];exact am)
 .rw[World.cell?_alloc_lt _ _ _ (by simpa using ak)];exact World.cell?_setCell_same _ _ _ (u:=.int .u64 ((rest ||| v%2^m*2^(n%64)%2^64:Nat):Int)) (by
   rw[World.cell?_setCell_other _ _ _ _ OE.symm,World.cell?_setCell_other _ _ _ _ OG];exact World.cell?_setCell_same _ _ _ h1)
 .rw[World.cell?_alloc_lt _ _ _ (by simpa using ak),World.cell?_setCell_other _ _ _ _ OG.symm,World.cell?_setCell_other _ _ _ _ Zk.symm];exact World.cell?_setCell_same _ _ _ (u:=.int .i64 n) (by rw[World.cell?_setCell_other _ _ _ _ OG.symm];exact af)
 .rw[World.frozen?_alloc_past _ _ _ (by simpa using ak)];simpa using f0
 .rw[World.frozen?_alloc_past _ _ _ (by simpa using ak)];simpa using f1
 .rw[World.frozen?_alloc_past _ _ _ (by simpa using ak)];simpa using f2
theorem Pe(b off N n:Nat)(v m:Nat)(w:ai)(az:n<=1000000000)(aE:v<4294967296)(hm:m<=32)(fq:64<=n%64+m)(h:dP w b off N n) :
  Calls prog 99 #[.pointer (some ⟨b,off,none⟩),.int .u32 v,.int .i64 m] w λe w'=>e=.returned (.bool true)/\dP w' b off (N+v%2^m*2^n) (n+m)/\w.grownBy w' (some b):=by
 obtain⟨p,rest,us,am,h1,af,f0,f1,f2,xB,hc,hw⟩:=h;have aO:=atg (v:=v) (m:=m) hm fq am h1 af f0 f1 f2 xB hc hw;have iT:=I aO;have b8:=or_val rest (v%2^m) (n%64) hw.aaq;have At:=I b8;have ak:=xB.lt;have aG:((v%2^m:Nat):Int)/2^(64-n%64)=((v%2^m/2^(64-n%64):Nat):Int):=by simp
 have dS:=I aG;clear aO b8 hc hw xB aG;go_enter func99,ntmps99
 go_wp2_with fail
 refine(Oq v m _ (by omega) (by omega)).mono ?_;rintro e w' ⟨rfl,rfl⟩;go_wp2;go_region
 all_goals go_wp2
 go_region
 all_goals go_wp2
 go_ret;rw[Zi,At.out,dS.out,<-Int.natCast_add];exact⟨rfl,iT.out.1.drew.drew,nR (nR iT.out.2)⟩
theorem E0(b off N n:Nat)(v m:Nat)(w:ai)(az:n<=1000000000)(aE:v<4294967296)(hm:m<=32)(h:dP w b off N n) :
  Calls prog 99 #[.pointer (some ⟨b,off,none⟩),.int .u32 v,.int .i64 m] w λe w'=>e=.returned (.bool true)/\dP w' b off (N+v%2^m*2^n) (n+m)/\w.grownBy w' (some b):=by
 by_cases hl:n%64+m<64
 .exact Pf b off N n v m w az aE hm hl h
 .exact Pe b off N n v m w az aE hm (by omega) h
theorem ahF(A:a7)(c:Nat)(v:Int)(w:ai) :
  Calls prog 132 #[.slice A 0 c,.int .u64 v] w λe w'=>e=.returned (.tuple #[])/\w=w':=by
 go_enter func132,ntmps132
 go_wp2;go_loop [8] (λi=>i=.int .i64 0) (λ_=>0)
 case atStart=>rfl
 case round=>
  obtain rfl:=hrel;go_wp2;go_end0
  exact⟨rfl,rfl⟩
theorem apP{w:ai}{g off k v:Nat}{ag:ae}(hl:off+k<ag.length)(h:Row w g 5 (aN (ik ag off k v))) :
  Row (w.setCell ⟨g,off+k,none⟩ (.int .u8 ((v/256^k%256:Nat):Int))) g 5 (aN (ik ag off (k+1) v)):=by
 have h1:=h.bm (off+k) (.int .u8 ((v/256^k%256:Nat):Int));rw[B9,Ut _ _ _ _ hl]at h1;exact h1
theorem Uv(g off len c v:Nat)(ag:ae)(w:ai)(hl:off+len<=ag.length)(hL:ag.length<=1000000000)(aj:Row w g 5 (aN ag)) :
  Calls prog 132 #[.slice (some ⟨g,off,none⟩) len c,.int .u64 v] w λe w'=>e=.returned (.tuple #[])/\Row w' g 5 (aN (ik ag off (min len 8) v))/\w.grownBy w' (some g):=by
 obtain⟨m,hm⟩:∃m,m=min len 8:=⟨_,rfl⟩;have av0:m<=8:=by omega
 have M5:m<=len:=by omega
 have hmin:Hid ((min (len:Int) 8)=(m:Int)):=by unfold Hid;omega
 rw[<-hm];clear hm;go_enter func132,ntmps132
 go_wp2;rw[hmin.out];go_loopw [8] (λi wr=>∃k:Nat,k<=m/\i=.int .i64 k/\Row wr g 5 (aN (ik ag off k v))/\w.grownBy wr (some g)) (λi _=>m-(intOf i).toNat)
 case atStart=>exact⟨0,zero_le _,rfl,by rw[Uu];exact aj,dl _ _⟩
 case round=>
  obtain⟨k,hk,rfl,hrow,cP⟩:=hrel;by_cases av:k<m
  .have hcell:=hrow.cell (off+k);have hfree:=hrow.free (off+k);have hlen:off+k<(ik ag off k v).length:=by rw[Us _ _ _ _ (by omega)];omega
   rw[jF _ _ hlen]at hcell;generalize (ik ag off k v)[off+k]=old at hcell;have da:=I hrow;have jH:=I cP;clear hrow cP hlen aj;go_wp2;rw[Tp];go_roundw
   case rel=>exact⟨k+1,by omega,by go_num,apP (by omega) da.out,hz jH.out _ _⟩
   case measure=>simp[intOf];omega
  .obtain rfl:k=m:=by omega
   go_wp2;go_end0
   exact⟨rfl,hrow,cP⟩
theorem aaW(g L q:Nat)(W:ai)(h:q<L)(_hL:L<=1000000000):(Instr.slice 87 (.slice (some ⟨g,0,none⟩) L L) (some (.int .i64 q)) none none).run prog W=.ok (.slice (some ⟨g,q,none⟩) (L-q) (L-q)) W:=by
 have h1:¬L=q:=by omega
 have af:q<=L:=by omega
 go_simp
theorem aqR(g L q:Nat)(W:ai)(h:q=L):(Instr.slice 87 (.slice (some ⟨g,0,none⟩) L L) (some (.int .i64 q)) none none).run prog W=.ok (.slice (some ⟨g,0,none⟩) 0 0) W:=by
 subst h;go_simp
theorem ahE(g q c v:Nat)(w:ai)(aj:Row w g 5 (aN (List.replicate q 0))) :
  Calls prog 132 #[.slice (some ⟨g,0,none⟩) 0 c,.int .u64 v] w λe w'=>e=.returned (.tuple #[])/\Row w' g 5 (aN (ik (List.replicate q 0) q (min (q-q) 8) v))/\w.grownBy w' (some g):=
 (ahF _ c v w).mono λe w' ⟨he,hw⟩=>by
  subst hw;refine⟨he,?_,dl _ _⟩;rw[Nat.sub_self,show min 0 8=0 from rfl,Uu];exact aj
theorem afZ{N n rest q L:Nat}{us:ae}(h:nf N n rest us)(hq:q=8*(n/64))(bR:L=(n+7)/8) :
  ik (List.replicate L 0) q (min (L-q) 8) rest=List.replicate q 0++(ao.bytesOf N L).drop q:=by
 have h1:=afY N n rest us h;rw[h.1]at h1;rw[hq,bR];exact h1
theorem AS(b off N n:Nat)(w:ai)(az:n<=1000000000)(h:dP w b off N n) :
  Calls prog 100 #[.pointer (some ⟨b,off,none⟩)] w λe w'=>∃g,e=.returned (.slice (some ⟨g,0,none⟩) ((n+7)/8) ((n+7)/8))/\w.heap.size<=g/\Row w' g 5 (aN (ao.bytesOf N ((n+7)/8)))/\Below w.heap.size w w':=by
 obtain⟨i0,ax,bB,bK,bw⟩:=info_parts oG;have jG:=I h;obtain⟨p,rest,us,am,h1,af,f0,f1,f2,xB,hc,hw⟩:=h;have gn:=I hc;have fP:=I hw;clear f0 f1 f2 xB hc hw;go_enter func100,ntmps100
 go_wp2_with (at_make;refine wpList_make_full _ rfl _ _ 87 rfl w.heap.size 5 i0 (.int .u8 0) 1 underlying87 ax bB bK .i64 .i64 _ _ ((n+7)/8) rfl rfl ?c1 ?c1 ?c2 ?c3 ?c4 ?_)
 case c1=>omega
 case c2=>rw[bw];omega
 case c3=>unfold maxLen;omega
 case c4=>exact Nat.le_refl _
 intro au hown1 aZ;have aH:=k8 aZ;have FF:=I (jG.out.keep aZ (by simp) (by simp));have cd:Row au w.heap.size 5 (aN (List.replicate ((n+7)/8) 0)):=E7 hown1;have d1:au.cell? ⟨b,off+1,none⟩=some (.int .u64 rest):=(aH.cell (p:=⟨b,off+1,none⟩) (World.block_lt_of_cell? w _ h1)).trans h1;have d2:au.cell? ⟨b,off+2,none⟩=some (.int .i64 n):=(aH.cell (p:=⟨b,off+2,none⟩) (World.block_lt_of_cell? w _ af)).trans af;have aK:=I aH;have dx:=I cd;have kZ:=I am;clear hown1 aZ aH cd am h1 af;obtain⟨q,hq⟩:∃q,q=8*(n/64):=⟨_,rfl⟩;obtain⟨L,bR⟩:∃L,L=(n+7)/8:=⟨_,rfl⟩;have aj3:q<=L:=by omega
 have aj4:L<=q+8:=by omega
 have Ho:L<=1000000000:=by omega
 have Wo:(n:Int)/64*8=(q:Int):=by omega
 have iR:=I hq;have RJ:=I Wo;have oS:=I bR;clear hq Wo bR;go_wp2;rw[RJ.out,<-oS.out];rw[<-oS.out]at dx;have hpost:∀aB,Row aB w.heap.size 5 (aN (ik (List.replicate L 0) q (min (L-q) 8) rest))->Row aB w.heap.size 5 (aN (List.replicate q 0++(ao.bytesOf N L).drop q)):=
  λaB h=>by rw[<-afZ fP.out iR.out oS.out];exact h
 have wR:=I hpost;clear hpost;by_cases av:q=L
 all_goals first
  | (
    have Nz:=λW=>aqR w.heap.size L q W av
    have b5:=I av;clear av;go_still_tail 7,(by kernel_rfl)
    change wpList _ _ _ _ _ au.drew;clear Nz;go_wp2_with fail
    refine(ahE w.heap.size q _ rest au.drew (by rw[b5.out];exact dx)).mono ?_;rintro e aB ⟨rfl,hrow,cP⟩;rw[show ik (List.replicate q 0) q (min (q-q) 8) rest=ik (List.replicate L 0) q (min (L-q) 8) rest by rw[<-b5.out]]at hrow;clear b5)
  | (
    have hlt2:q<L:=by omega
    have Er:=λW=>aaW w.heap.size L q W hlt2 Ho
    go_still_tail 7,(by kernel_rfl)
    change wpList _ _ _ _ _ au.drew;clear Er;go_wp2_with fail
    refine(Uv w.heap.size q (L-q) _ rest (List.replicate L 0) au.drew (by simp;omega) (by simpa using Ho) dx.out).mono ?_;rintro e aB ⟨rfl,hrow,cP⟩;clear av hlt2)
 all_goals
  have hrow2:=wR.out aB hrow;have aI:Below w.heap.size w aB:=aK.out.drew.grown cP (by have:=aK.out.size;simpa using this) (λk e=>by injection e with e;omega);have agO:aB.cell? ⟨b,off,none⟩=some (.pointer p):=(aI.cell (p:=⟨b,off,none⟩) (World.block_lt_of_cell? w _ kZ)).trans kZ.out;have uh:q=8*us.length:=by rw[fP.out.1];exact iR.out
  rw[show(q:Int)=((8*us.length:Nat):Int) by rw[uh]];rw[uh]at hrow2;have XY:8*us.length<=L:=by omega
  have gh:=I hrow2;have aV:=I aI;clear hrow2 aI cP hrow wR aK d1 d2 kZ FF dx RJ aj3 aj4 uh iR jG;go_wp2;go_loopw [4,5] (λi p' wr=>∃(rem:ae) (v8:a7),i=.int .i64 ((8*rem.length:Nat):Int)/\p'=.pointer v8/\Hid (Chain w v8 rem)/\Hid (Row wr w.heap.size 5 (aN (List.replicate (8*rem.length) 0++(ao.bytesOf N L).drop (8*rem.length)))) /\
   Hid (Below w.heap.size w wr)/\Hid (qm rem=N%2^(64*rem.length))/\Hid (∀u∈rem,u<2^64)/\8*rem.length<=L) (λi _ _=>(intOf i).toNat)
  case atStart=>exact⟨us,p,rfl,rfl,gn,gh,aV,fP.out.chain,fP.out.2.2.1,XY⟩
  case round=>
   obtain⟨rem,v8,rfl,rfl,sB,zB,dY,hcv,WE,hle⟩:=hrel;clear XY aV gh agO gn;rcases rem with _ | ⟨u,tl⟩
   .obtain rfl:v8=none:=sB.out;have hfin:Row wr w.heap.size 5 (aN (ao.bytesOf N L)):=zB.out;rw[oS.out]at hfin;have ey:=I hfin;clear hfin zB hle;go_wp2;go_ret;rw[oS.out];exact⟨_,rfl,Nat.le_refl _,ey,dY⟩
   .obtain⟨g1,gy,rfl,cd,DX⟩:=sB.out;obtain⟨r,aj⟩:∃r,r=8*tl.length:=⟨_,rfl⟩;have aZ:=cd.lt;have c0:=(dY.out.cell (p:=⟨g1,0,none⟩) aZ).trans (cd.cell 0);have c1:=(dY.out.cell (p:=⟨g1,1,none⟩) aZ).trans (cd.cell 1);simp only[dR,dU]at c0 c1;have JU:=I DX;rw[b1,show((8*(tl.length+1):Nat):Int)=r+8 by omega];rw[b1]at zB hcv hle;have aj6:r<L:=by omega
    have vP:r+8<=L:=by omega
    have aU:=I aj;have Er:=λW=>aaW w.heap.size L r W aj6 Ho
    have hhead:=agd N u tl (λx ah=>WE.out x (ew _ ah)) hcv.out;have hcs:(List.replicate (8*(tl.length+1)) 0++(ao.bytesOf N L).drop (8*(tl.length+1))).length=L:=by
     rw[aY,jl,cC,ao.bytesOf_length];omega
    have lL:∀a1,Row a1 w.heap.size 5 (aN (ik (List.replicate (8*(tl.length+1)) 0++(ao.bytesOf N L).drop (8*(tl.length+1))) r (min (L-r) 8) u)) ->
      Row a1 w.heap.size 5 (aN (List.replicate (8*tl.length) 0++(ao.bytesOf N L).drop (8*tl.length))):=λa1 aq=>by
     have e:=af0 N L tl.length (by omega);rw[<-hhead.1,<-aj,show 8=min (L-r) 8 by omega]at e;rw[show min (L-r) 8=8 by omega]at aq;rw[show min (L-r) 8=8 by omega,aj]at e;rw[<-e,<-aj];exact aq
    have tB:=I lL;have tA:=I hcs;have kL:=I hhead.2;clear aj DX cd sB hle lL hcs hhead hcv;go_wp2;go_still_tail 7,(by kernel_rfl)
    change wpList _ _ _ _ _ wr.drew;clear Er;go_wp2_with fail
    refine(Uv w.heap.size r (L-r) _ u _ wr.drew (by rw[tA.out];omega) (by rw[tA.out];exact Ho) zB).mono ?_;rintro e a1 ⟨rfl,hrow3,Wc⟩;have kq:=I (tB.out a1 hrow3);have bz:Below w.heap.size w a1:=dY.out.drew.grown Wc (by have:=dY.out.size;simpa using this) (λk e=>by injection e with e;omega);have at0:a1.cell? ⟨g1,0,none⟩=some (.pointer gy):=(bz.cell (p:=⟨g1,0,none⟩) aZ).trans ((dY.out.cell (p:=⟨g1,0,none⟩) aZ).symm.trans c0);have bE:=I bz;clear bz hrow3 Wc c0 c1 zB tB tA;go_wp2;go_roundw
    case rel=>exact⟨tl,gy,by rw[aU.out],rfl,JU,kq,bE,kL,λx ah=>WE.out x (ew _ ah),by have:=aU.out;omega⟩
    case measure=>simp[intOf];omega
theorem ES(A:a7)(c:Nat)(bs:ae)(w:ai)(cr:∀b∈bs,b<256)(aj:Reads w A (aN bs)) :
  Calls prog 148 #[.slice A bs.length c] w λe w'=>e=.returned (.pointer (some ⟨w.heap.size,0,none⟩))/\eB w' w.heap.size 0 bs 0/\Below w.heap.size w w':=by
 have eD:=o3 w A c bs cr aj;clear cr aj;go_enter func148,ntmps148
 go_wp2;go_ret;have hrow:=Row.new w 243 [.string (strOf bs),.int .i64 0];exact⟨rfl,⟨hrow.cell 0,hrow.cell 1,hrow.free 1,hrow.lt⟩,dQ.alloc bh _⟩
theorem abH(a:Addr)(m:Int)(w:ai)(h:m<0\/32<m) :
  Calls prog 177 #[.pointer (some a),.int .i64 m] w λe w'=>e=.returned (.tuple #[.int .u32 0,.bool false])/\w=w':=by
 rcases h with h | h
 .go_enter func177,ntmps177
  go_wp2;go_ret2;exact⟨rfl,rfl⟩
 .go_enter func177,ntmps177
  go_wp2;go_ret2;exact⟨rfl,rfl⟩
theorem Fm(b off:Nat)(bs:ae)(pos m:Nat)(w:ai)(ap:bs.length<=100000000)(aw:pos<=8*bs.length)(hm:m<=32)(lK:8*bs.length-pos<m)(h:eB w b off bs pos) :
  Calls prog 177 #[.pointer (some ⟨b,off,none⟩),.int .i64 m] w λe w'=>e=.returned (.tuple #[.int .u32 0,.bool false])/\∃k,w'=w.drewN k:=by
 have hl:=H0 b off bs pos w (by omega) aw h;have e1:=I hl;clear hl h;generalize 8*bs.length-pos=Ol at e1 lK;have av:(Ol:Int)<m:=by omega
 go_enter func177,ntmps177
 go_wp2_with fail
 refine e1.out.mono ?_;rintro e w' ⟨rfl,dI,rfl⟩;go_wp2;go_ret2;exact⟨rfl,_,rfl⟩
theorem ank(x b k:Nat)(ah:x<256^k)(ak:b<256)(hk:k<5):bits .or .u64 (x:Int) (IntKind.u64.wrap ((b:Int)*2^(8*k)))=((x+b*256^k:Nat):Int):=by
 have aw:256^k<=256^4:=dD (by omega) (by omega);have aJ:(256:Nat)^4=4294967296:=by decide
 rw[or_val _ _ _ (by omega)];have h1:=zN (8*k) x b (by rw[<-ib];exact ah);have af:b*2^(8*k)<2^64:=by
  rw[<-ib];have:=Nat.mul_le_mul (show b<=255 by omega) aw;omega
 rw[mod_eq_of_lt af,h1,ib]
theorem arR(bs:ae)(f k:Nat)(ML:f<=k)(hk:k<bs.length)(aR:k<f+5)(h:∀x∈bs,x<256) :
  bits .or .u64 ((bd ((bs.drop f).take (k-f)):Nat):Int) (IntKind.u64.wrap ((bs[k]:Int)*2^(8*(k-f))))=((bd ((bs.drop f).take (k+1-f)):Nat):Int):=by
 have hl:((bs.drop f).take (k-f)).length=k-f:=by rw[cq,cC];omega
 have av:=po ((bs.drop f).take (k-f)) (λx ah=>h x (mem_of_mem_drop (mem_of_mem_take ah)));rw[hl]at av;rw[ank _ _ _ av (h _ (b7 hk)) (by omega)];have aD:k-f<(bs.drop f).length:=by rw[cC];omega
 have e:(bs.drop f)[k-f]=bs[k]:=by rw[getElem_drop];congr 1;omega
 rw[show k+1-f=(k-f)+1 by omega,gb aD,Fv,hl,e]
theorem apY{w:ai}{b off pos:Nat}{bs:ae}(h:eB w b off bs pos)(dI m:Nat):eB ((w.setCell ⟨b,off+1,none⟩ (.int .i64 ((pos+m:Nat):Int))).drewN dI) b off bs (pos+m):=by
 have h1:eB (w.setCell ⟨b,off+1,none⟩ (.int .i64 ((pos+m:Nat):Int))) b off bs (pos+m):=by
  obtain⟨am,h1,af,aq⟩:=h;refine⟨?_,World.cell?_setCell_same _ _ _ h1,by simpa using af,by simpa using aq⟩;rw[World.cell?_setCell_other _ _ _ _ (by intro e;injection e with _ e _;omega)];exact am
 exact h1.drewN dI
theorem ux(b off:Nat)(bs:ae)(pos m:Nat)(w:ai)(ap:bs.length<=100000000)(cr:∀x∈bs,x<256)(hm:m<=32)(hle:pos+m<=8*bs.length)(h:eB w b off bs pos) :
  Calls prog 177 #[.pointer (some ⟨b,off,none⟩),.int .i64 m] w λe w'=>
   e=.returned (.tuple #[.int .u32 ((bd bs/2^pos%2^m:Nat):Int),.bool true])/\eB w' b off bs (pos+m)/\w.grownBy w' (some b):=by
 have hl:=H0 b off bs pos w (by omega) (by omega) h;have e1:=I hl;have l1:=I h;obtain⟨am,h1,af,_⟩:=h;have av:(m:Int)<=((8*bs.length-pos:Nat):Int):=by omega
 have bI:=cZ bs;have px:=I cr;have hidx:∀(i:Nat) (W:ai) (ax:i<bs.length),(Instr.index 9 (.string (strOf bs)) (.int .i64 i)).run prog W=.ok (.int .u8 ((bs[i]:Nat):Int)) W:=λi W ax=>pT bs i W ax (cr _ (b7 ax))
 have ic:=I hidx;have eT:=I bI;clear hl cr hidx bI;generalize strOf bs=xV at am ic eT;have Ny:xV.size<=100000000:=by rw[eT.out];exact ap
 generalize Br:8*bs.length-pos=Ol at e1 av;have RO:=I Br;clear Br;go_enter func177,ntmps177
 go_wp2_with fail
 refine e1.out.mono ?_;rintro e w' ⟨rfl,dI,rfl⟩;have hlt2:¬Ol<m:=by omega
 clear e1;obtain⟨f,aL⟩:∃f,f=pos/8:=⟨_,rfl⟩;obtain⟨t,aC⟩:∃t,t=f+min 5 (bs.length-f):=⟨_,rfl⟩;have y7:(pos:Int)/8=(f:Int):=by omega
 have kE:min ((f:Int)+5) (xV.size:Int)=t:=by rw[eT.out];omega
 have fj:t<=bs.length:=by omega
 have XR:t<=f+5:=by omega
 have hn:f<=t:=by omega
 have bk:=I aL;have eM:=I aC;have J5:=I y7;have kO:=I kE;clear aL aC y7 kE;go_wp2;rw[J5.out,kO.out];go_loop [8,9] (λv i=>∃k:Nat,f<=k/\k<=t/\i=.int .i64 k/\v=.int .u64 ((bd ((bs.drop f).take (k-f)):Nat):Int)) (λ_ i=>t-(intOf i).toNat)
 case atStart=>exact⟨f,Nat.le_refl _,hn,rfl,by rw[Nat.sub_self];rfl⟩
 case round=>
  obtain⟨k,ML,zi,rfl,rfl⟩:=hrel;by_cases hk:k<t
  .have ah:=ic.out k;have oC:=λW=>ah W (by omega)
   have lf:=px.out bs[k] (b7 (by omega));clear ah;have hstep:=arR bs f k ML (by omega) (by omega) px.out;have kd:=I hstep;clear hstep;generalize bs[k]=x at oC lf kd;go_wp2;rw[kd.out];go_round
   case rel=>exact⟨k+1,by omega,by omega,by go_num,rfl⟩
   case measure=>simp[intOf];omega
  .obtain rfl:k=t:=by omega
   have aE:=abI bs px.out pos m (k-f) hm hle (by have aq:=eM.out;have aJ:=bk.out;omega);rw[<-bk.out]at aE;have hy:bd ((bs.drop f).take (k-f))<2^40:=by
    have aR:=po ((bs.drop f).take (k-f)) (λx ah=>px.out x (mem_of_mem_drop (mem_of_mem_take ah)));have cg:256^((bs.drop f).take (k-f)).length<=256^5:=dD (by omega) (by rw[cq];omega);have c7:(256:Nat)^5=2^40:=by decide
    omega
   generalize bd ((bs.drop f).take (k-f))=y at aE hy;have aG:(y:Int)/2^(pos%8)=((y/2^(pos%8):Nat):Int):=by simp
   have kz:=div_le_self y (2^(pos%8));have aO:∀z,z=y/2^(pos%8)->z%2^m=bd bs/2^pos%2^m:=λz aO=>by rw[aO];exact aE
   have DC:y/2^(pos%8)<2^64:=by
    have:(2:Nat)^40<=2^64:=dD (by omega) (by omega);omega
   have ajO:bd bs/2^pos%2^m<4294967296:=gV (mod_lt _ (eW m)) (dD (n:=2) (j:=32) (by omega) hm);have dS:=I aG;have fI:=I aE;clear aE aG aO kz hy;go_wp2_with fail
   rw[dS.out];refine(Oq (y/2^(pos%8)) m _ DC (by omega)).mono ?_;rintro e w' ⟨rfl,rfl⟩;rw[fI.out];have W2:(pos:Int)+m=((pos+m:Nat):Int):=by omega
   have qZ:=I W2;clear W2 DC;generalize kk:bd bs/2^pos%2^m=z at ajO;have aee:=I kk;clear kk;go_wp2;go_ret2;rw[qZ.out,aee.out];exact⟨rfl,apY l1.out dI m,hz (qq (dl _ _) _) _ _⟩
theorem amL(A:a7)(n c:Nat)(bs:ae)(w:ai)(az:bs.length=n)(cr:∀b∈bs,b<256)(aj:Reads w A (aN bs)) :
  Calls prog 148 #[.slice A n c] w λe w'=>e=.returned (.pointer (some ⟨w.heap.size,0,none⟩))/\eB w' w.heap.size 0 bs 0/\Below w.heap.size w w':=by
 subst az;exact ES A c bs w cr aj
theorem dP.YY{w:ai}{b off N n:Nat}(h:dP w b off N n):w.cell? ⟨b,off+2,none⟩=some (.int .i64 n):=by
 obtain⟨p,rest,us,am,h1,af,_⟩:=h;exact af
def js(w:ai)(B b:Nat)(bs:ae)(left:Nat):Prop:=∃g cap,
 w.cell? ⟨b,0,none⟩=some (.slice (some ⟨g,0,none⟩) bs.length cap)/\w.cell? ⟨b,1,none⟩=some (.int .i64 left)/\w.frozen? ⟨b,1,none⟩=false /\
 B<=b/\b<w.heap.size/\B<=g/\g<w.heap.size/\g≠b/\bs.length<=cap/\cap<=maxLen/\Reads w (some ⟨g,0,none⟩) (aN bs)
theorem js.keep{w w':ai}{B b left:Nat}{bs:ae}{row:Option Nat}(h:js w B b bs left)(aD:w.grownBy w' row)(aj:∀r,row=some r->r<B):js w' B b bs left:=by
 obtain⟨g,cap,am,h1,af,aq,aJ,aR,cg,c7,fK,dm,vo⟩:=h;have hl:=aD.block b aJ (λe=>by have:=aj b e.symm;omega);have eF:=aD.block g cg (λe=>by have:=aj g e.symm;omega);refine⟨g,cap,(World.cell?_of_block hl).trans am,(World.cell?_of_block hl).trans h1,(World.frozen?_of_block hl).trans af,aq,gV aJ aD.size,aR,gV cg aD.size,c7,fK,dm,λaX=>?_⟩;obtain⟨fd,off,e,hc⟩:=vo aX;injection e with e
 injection e with aF e2
 subst aF e2;exact⟨_,_,rfl,λj ar=>(World.cell?_of_block (a:=⟨g,0+j,none⟩) eF).trans (hc j ar)⟩
theorem aaj{w:ai}{g b i:Nat}{xs:b3}{u:Value}(h:Reads w (some ⟨g,0,none⟩) xs)(aX:g≠b):Reads (w.setCell ⟨b,i,none⟩ u) (some ⟨g,0,none⟩) xs:=λah=>by
 obtain⟨fd,off,e,hc⟩:=h ah;injection e with e
 injection e with aF e2
 subst aF e2;exact⟨_,_,rfl,λj ar=>by rw[World.cell?_setCell_other _ _ _ _ (by intro e;injection e with e _ _;exact aX e.symm)];exact hc j ar⟩
theorem js.step{w:ai}{B b left:Nat}{bs:ae}(h:js w B b bs left)(left':Nat):js (w.setCell ⟨b,1,none⟩ (.int .i64 left')) B b bs left':=by
 obtain⟨g,cap,am,h1,af,aq,aJ,aR,cg,c7,fK,dm,vo⟩:=h;refine⟨g,cap,?_,World.cell?_setCell_same _ _ _ h1,by simpa using af,aq,by simpa using aJ,aR,by simpa using cg,c7,fK,dm,aaj vo c7⟩;rw[World.cell?_setCell_other _ _ _ _ (by intro e;injection e with _ e _;omega)];exact am
theorem afl(b:Nat)(n:Int)(w:ai)(h:w.cell? ⟨b,1,none⟩=some (.int .i64 n)) :
  Calls prog 227 #[.pointer (some ⟨b,0,none⟩)] w λe w'=>e=.returned (.int .i64 n)/\w=w':=by
 go_enter func227,ntmps227
 go_wp2;go_ret;exact⟨rfl,rfl⟩
theorem afk(B b left:Nat)(bs:ae)(w:ai)(h:js w B b bs left) :
  Calls prog 227 #[.pointer (some ⟨b,0,none⟩)] w λe w'=>e=.returned (.int .i64 left)/\w=w':=by
 obtain⟨g,cap,_,h1,_⟩:=h;exact afl b _ w h1
theorem afQ(w:ai)(n:Int):Calls prog 225 #[.pointer none,.int .i64 n] w λe w'=>e=.returned (.tuple #[.int .u32 0,.bool false])/\w=w':=by
 go_enter func225,ntmps225
 go_wp2;go_ret2;exact⟨rfl,rfl⟩
theorem Tm(B b left:Nat)(bs:ae)(m:Nat)(w:ai)(hm:m<=32)(lK:left<m)(h:js w B b bs left) :
  Calls prog 225 #[.pointer (some ⟨b,0,none⟩),.int .i64 m] w λe w'=>e=.returned (.tuple #[.int .u32 0,.bool false])/\w=w':=by
 obtain⟨g,cap,_,h1,_⟩:=h;have av:(left:Int)<m:=by omega
 go_enter func225,ntmps225
 go_wp2;go_ret2;exact⟨rfl,rfl⟩
theorem aqS(g L c f t:Nat)(W:ai)(aL:f<t)(aC:t<=L)(hc:L<=c) :
  (Instr.slice 87 (.slice (some ⟨g,0,none⟩) L c) (some (.int .i64 f)) (some (.int .i64 t)) none).run prog W=.ok (.slice (some ⟨g,f,none⟩) (t-f) (c-f)) W:=by
 have h1:¬c=f:=by omega
 have af:f<=t:=by omega
 have aq:t<=c:=by omega
 have aJ:f<=c:=by omega
 go_simp
theorem apm{w:ai}{g f t:Nat}{bs:ae}(h:Reads w (some ⟨g,0,none⟩) (aN bs))(aL:f<t)(aC:t<=bs.length):Reads w (some ⟨g,f,none⟩) (aN ((bs.drop f).take (t-f))):=λ_=>by
 obtain⟨fd,off,e,hc⟩:=h (by intro e;have:=jn bs;rw[e]at this;simp at this;omega);injection e with e
 injection e with aF e2
 subst aF e2;refine⟨g,f,rfl,λj ar=>?_⟩;have Bm:j<t-f:=by simp[aN]at ar;omega
 have db:=hc (f+j) (by rw[jn];omega);rw[eH]at db;have hl:j<((bs.drop f).take (t-f)).length:=by simp;omega
 rw[db,jF bs (f+j) (by omega),jF _ j hl];simp
theorem Tn(B b left:Nat)(bs:ae)(m:Nat)(w:ai)(ap:bs.length<=100000000)(cr:∀x∈bs,x<256)(hm:m<=32)(hle:m<=left)(vM:left<8*bs.length)(h:js w B b bs left) :
  Calls prog 225 #[.pointer (some ⟨b,0,none⟩),.int .i64 m] w λe w'=>
   e=.returned (.tuple #[.int .u32 ((bd bs/2^(left-m)%2^m:Nat):Int),.bool true])/\js w' B b bs (left-m)/\w.grownBy w' (some b)/\w'.cell? ⟨b,0,none⟩=w.cell? ⟨b,0,none⟩:=by
 have cb:=I (h.step (left-m));obtain⟨g,cap,am,h1,af,aq,aJ,aR,cg,c7,fK,dm,vo⟩:=h;have qa:=I aJ;obtain⟨ig,eC⟩:∃a,a=left-m:=⟨_,rfl⟩;obtain⟨f,aL⟩:∃f,f=ig/8:=⟨_,rfl⟩;obtain⟨B3,vP⟩:∃r,r=ig%8:=⟨_,rfl⟩;obtain⟨t,aC⟩:∃t,t=f+min 5 (bs.length-f):=⟨_,rfl⟩;have lL:f<bs.length:=by omega
 have hn:f<t:=by omega
 have fj:t<=bs.length:=by omega
 have awg:B3<8:=by omega
 have avg:ig<=800000000:=by omega
 have MI:f<=100000000:=by omega
 have Mr:(left:Int)-m=ig:=by omega
 have Vr:(ig:Int)/8=(f:Int):=by omega
 have Vt:min ((f:Int)+5) (bs.length:Int)=t:=by omega
 have Vu:(ig:Int)%8=(B3:Int):=by omega
 have hlen:((bs.drop f).take (t-f)).length=t-f:=by simp;omega
 have fU:∀W:ai,(Instr.slice 87 (.slice (some ⟨g,0,none⟩) bs.length cap) (some (.int .i64 f)) (some (.int .i64 t)) none).run prog W=.ok (.slice (some ⟨g,f,none⟩) (t-f) (cap-f)) W:=
  λW=>aqS g bs.length cap f t W hn fj fK
 have hsub:∀x∈(bs.drop f).take (t-f),x<256:=λx ah=>cr x (mem_of_mem_drop (mem_of_mem_take ah))
 have hval:=abI bs cr ig m (t-f) hm (by omega) (by omega);rw[<-aL,<-vP,eC]at hval;have hfit:B3+m<=8*(t-f):=by omega
 have aQ:js (w.setCell ⟨b,1,none⟩ (.int .i64 ig)) B b bs ig:=by rw[eC];exact cb.out
 have bp:=apm (aaj (b:=b) (i:=1) (u:=.int .i64 ig) vo c7) hn fj;have j3:(w.setCell ⟨b,1,none⟩ (.int .i64 ig)).cell? ⟨b,1,none⟩=some (.int .i64 ig):=World.cell?_setCell_same _ _ _ h1;have dY:b<(w.setCell ⟨b,1,none⟩ (.int .i64 ig)).heap.size:=by simpa using aJ
 have dB:=I bp;have kO:=I aQ;have acI:=I Mr;have acJ:=I Vr;have acK:=I Vt;have acL:=I Vu;have Hlen:=I hlen;have KA:=I hsub;have ad6:=I hval;have Rp:=I j3;clear cb aQ bp Mr Vr Vt Vu hlen hsub hval cr aR cg c7 dm vo aL vP aC j3;go_enter func225,ntmps225
 go_upto_region 4 with fail
 rw[acI.out];have pw:=I eC;clear eC;go_upto_region 6 with fail
 rw[acJ.out,acK.out];go_wp2_with fail
 refine(amL (some ⟨g,f,none⟩) (t-f) (cap-f) _ _ Hlen.out KA.out dB).mono ?_;rintro e aB ⟨rfl,ru,aI⟩;obtain⟨vY,l9⟩:∃x,x=(w.setCell ⟨b,1,none⟩ (.int .i64 ig)).heap.size:=⟨_,rfl⟩;rw[<-l9]at ru ⊢;have d1:aB.cell? ⟨b,1,none⟩=some (.int .i64 ig):=(aI.cell (p:=⟨b,1,none⟩) dY).trans Rp.out;have wU:=I ru;rw[<-l9]at aI;have gT:=aI.size;rw[<-l9]at gT;have aV:=I aI;have o9:b<vY:=by rw[l9];exact dY
 have Eu:w.heap.size<=vY:=by rw[l9];simp
 have ady:=I l9;clear aI ru fU l9 dY Rp;go_wp2_with fail
 rw[acL.out];refine(ux vY 0 _ 0 B3 aB (by rw[Hlen.out];omega) KA.out (by omega) (by rw[Hlen.out];omega) wU.out).mono ?_;rintro e a1 ⟨rfl,rv,cs⟩;generalize bd (List.take (t-f) (List.drop f bs))/2^0%2^B3=junk;have yA:=I rv;have bE:=I (aV.out.trans (below_grown cs bh gT));have sT:=cs.size;clear rv cs aV wU d1;go_wp2_with fail
 refine(ux vY 0 _ (0+B3) m a1 (by rw[Hlen.out];omega) KA.out hm (by rw[Hlen.out];omega) yA.out).mono ?_;rintro e bA ⟨rfl,_,cA⟩;rw[eH,ad6.out];have cx:=I (bE.out.trans (below_grown cA bh (by omega)));clear cA bE yA;generalize hy:bd bs/2^(left-m)%2^m=y;have sb:=I hy;clear hy;go_wp2;go_ret2;have a8:=cx.out;rw[ady.out]at a8;rw[sb.out];refine⟨rfl,?_,(hz (dl w (some b)) 1 (.int .i64 ig)).trans (dr a8 (some b)),?_⟩
 .rw[<-pw.out];exact kO.out.keep (dr a8 none) (by simp)
 .rw[a8.cell (p:=⟨b,0,none⟩) (by simpa using qa.out),World.cell?_setCell_other _ _ _ _ (by intro e;injection e with _ e _;omega)]
def Rest(w:ai)(B:Nat)(A:a7)(X L:Nat):Prop:=
 L=0\/∃g off,A=some ⟨g,off,none⟩/\B<=g/\g<w.heap.size/\∀j,j<L->w.cell? ⟨g,off+j,none⟩=some (.int .i64 ((X/2^j%2:Nat):Int))
theorem aqT(A:a7)(L c q:Nat)(W:ai)(h:q<=L)(hc:L<=c):(Instr.slice 112 (.slice A L c) none (some (.int .i64 q)) none).run prog W=.ok (.slice A q c) W:=by
 have h1:q<=c:=by omega
 rcases A with _ | a
 .go_simp
 .go_simp
theorem OZ{w:ai}{B:Nat}{v:Value}{X L:Nat}(h:w.ownsRow B 3 1 v L (aM (ao.bitsOf X L))):∃A c,v=.slice A L c/\L<=c/\c<=maxLen/\Rest w B A X L:=by
 rcases h.2 with⟨aE,am⟩ | ⟨g,cap,fg,aE,ak,hh,h1,af,_⟩
 .exact⟨none,0,by rw[aE,am],by omega,by unfold maxLen;omega,.inl am⟩
 .refine⟨some ⟨g,0,none⟩,cap,aE,h1,af,.inr ⟨g,0,rfl,ak,?_,λj ar=>?_⟩⟩
  .rcases eP g w.heap.size with aq | aq
   .exact aq
   .rw[Array.getElem?_eq_none aq]at hh;cases hh
  .have hc:=h.cells (g:=g) (by rw[aE];rfl) j _ (ja _ j (by rw[hf];exact ar));rw[AN,l3]at hc;rw[eH];exact hc
end Go.Proofs.YtgiicohbigiapaaGreat
