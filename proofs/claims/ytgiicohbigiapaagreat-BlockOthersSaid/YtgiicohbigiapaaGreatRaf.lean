/- Contracts, and what they rest on. Conditions: the theorems' premises. -/
import Derived.Test.YtgiicohbigiapaaGreatRad
import Derived.Test.YtgiicohbigiapaaGreatRac
set_option maxHeartbeats 4000000
set_option maxRecDepth 100000
open Go.Lib(hid)
open Go.Proofs.Tryz Go.Proofs.YtgiicohbigiapaaGreat.Bm
namespace Go.Proofs.YtgiicohbigiapaaGreat
open Go.RowKit
theorem iG(x:Nat)(w:World)(hx:x<4294967296) :
  Calls prog 130 #[.int .u32 (x:Int)] w fun e w'=>e=.returned (.int .i64 (Bm.wid x:Int))∧w=w':=by
 have h:=Tryz.bits_Len32 (x:Int) w (by omega) (by omega);rw[Int.toNat_natCast,KD x (by omega)]at h;have H:=hid h;clear h;go_enter func130,ntmps130
 go_wp2_with fail
 refine H.out.mono ?_;rintro e w' ⟨rfl,rfl⟩;go_wp2;go_ret;exact⟨rfl,rfl⟩
theorem Wq(w:World)(v:Int)(h:v<0∨65535<v):Calls prog 98 #[.int .i64 v] w fun e w'=>e=.returned (.tuple #[.int .u8 0,.int .i64 0,.int .i64 0,.bool false])∧w=w':=by
 go_enter func98,ntmps98
 by_cases h0:v<0
 ·have d0:decide (v<0)=true:=decide_eq_true h0;go_wp2;exact bodyPost_ret (by simp[results,results98,go_sem]) rfl ⟨rfl,rfl⟩
 ·have d0:decide (v<0)=false:=decide_eq_false h0;have d1:decide (65535<v)=true:=decide_eq_true (by omega);go_wp2;exact bodyPost_ret (by simp[results,results98,go_sem]) rfl ⟨rfl,rfl⟩
theorem FB(w:World)(v:Nat)(h:v<16):Calls prog 98 #[.int .i64 (v:Int)] w fun e w'=>e=.returned (.tuple #[.int .u8 (v:Int),.int .i64 0,.int .i64 0,.bool true])∧w=w':=by
 have hc:IntKind.u8.wrap (v:Int)=(v:Int):=by simp[IntKind.wrap,IntKind.bits,IntKind.signed];omega
 have d2:decide (v<16)=true:=decide_eq_true h;have d3:decide ((v:Int)<16)=true:=decide_eq_true (by omega);have d0:decide ((v:Int)<0)=false:=decide_eq_false (by omega);have d1:decide (65535<(v:Int))=false:=decide_eq_false (by omega);have d1':decide (65535<v)=false:=decide_eq_false (by omega);go_enter func98,ntmps98
 go_wp2;exact bodyPost_ret (by simp[results,results98,go_sem]) rfl ⟨rfl,rfl⟩
theorem afw(v P r:Nat)(hr:r=v-P)(h:P≤v)(hv:v≤65535):IntKind.i64.wrap ((v:Int)-(P:Int))=(r:Int):=by
 have e:(v:Int)-(P:Int)=(r:Int):=by omega
 rw[e];exact IntWalk.i64_in _ (by omega)
theorem aby(k c:Nat)(hc:c=11+(k+1))(hk:k≤15):IntKind.i64.wrap (16+(k:Int))=16+(k:Int)∧IntKind.i64.wrap (16+(k:Int)-4)=(c:Int)∧IntKind.u8.wrap (c:Int)=(c:Int):=by
 have e:16+(k:Int)-4=(c:Int):=by omega
 refine⟨IntWalk.i64_in _ (by omega),?_,?_⟩
 ·rw[e];exact IntWalk.i64_in _ (by omega)
 ·simp[IntKind.wrap,IntKind.bits,IntKind.signed];omega
theorem Fz(w:World)(v k P:Nat)(hk:4≤k∧k≤15)(hP:(2:Int)^k=(P:Int))(hPk:16≤P∧P≤32768)(hv:v≤65535)(h16:16≤v)(hPv:P≤v)(hw:Bm.wid v=k+1) :
  Calls prog 98 #[.int .i64 (v:Int)] w fun e w'=>e=.returned (.tuple #[.int .u8 ((11+(k+1):Nat):Int),.int .i64 ((v-P:Nat):Int),.int .i64 (k:Int),.bool true])∧∃m,w'=w.drewN m:=by
 have HP:=hid hP;clear hP;have Hw:=hid (fun W=>iG v W (by omega));rw[hw]at Hw;obtain⟨c,hc⟩:∃c,c=11+(k+1):=⟨_,rfl⟩;obtain⟨r,hr⟩:∃r,r=v-P:=⟨_,rfl⟩;rw[←hc,←hr];have hcv:IntKind.u32.wrap (v:Int)=(v:Int):=by simp[IntKind.wrap,IntKind.bits,IntKind.signed];omega
 have d2:decide (v<16)=false:=decide_eq_false (by omega);have d3:decide ((v:Int)<16)=false:=decide_eq_false (by omega);have d0:decide ((v:Int)<0)=false:=decide_eq_false (by omega);have d1:decide (65535<(v:Int))=false:=decide_eq_false (by omega);have d1':decide (65535<v)=false:=decide_eq_false (by omega);have hk1:((k+1:Nat):Int)-1=(k:Int):=by omega
 have hk2:IntKind.i64.wrap ((k:Int))=(k:Int):=IntWalk.i64_in _ (by omega);obtain⟨e1,e2,e3⟩:=aby k c hc hk.2;have e4:IntKind.i64.wrap ((P:Nat):Int)=((P:Nat):Int):=IntWalk.i64_in _ (by omega);have e4':wrap64 ((P:Nat):Int)=((P:Nat):Int):=by unfold wrap64;omega
 have e5:=afw v P r hr hPv hv;have hk0:0≤(k:Int):=by omega
 have hP:=HP.out;clear hw hc hr HP;go_enter func98,ntmps98
 go_wp2_with fail
 refine(Hw.out w).mono ?_;rintro e w' ⟨rfl,rfl⟩;go_wp2;go_quiet (fail)
 go_wp2;exact bodyPost_ret (by simp[results,results98,go_sem]) rfl ⟨rfl,_,rfl⟩
theorem Jh:ahg:=by
 refine⟨fun w v hv=>?_,fun w v _ h=>(Wq w v h).mono fun e w' ⟨he,hw⟩=>⟨he,hw▸Below.refl _ _⟩⟩;by_cases h16:v<16
 ·unfold kM kr gu;rw[if_pos h16,if_pos h16,if_pos h16];exact(FB w v h16).mono fun e w' ⟨he,hw⟩=>⟨he,hw▸Below.refl _ _⟩
 ·obtain⟨k,k1,k2,h1,h2,hw⟩:=Il v (by omega) hv;unfold kM kr gu;rw[if_neg h16,if_neg h16,if_neg h16,hw,Nat.add_sub_cancel];have hp:2^(k+1)=2^k+2^k:=by rw[Nat.pow_succ];omega
  have hm:v%2^k=v-2^k:=by rw[Nat.mod_eq_sub_mod h1,Nat.mod_eq_of_lt (by omega)]
  rw[hm];have h4:2^4≤2^k:=Nat.pow_le_pow_right (by omega) k1;have h15:2^k≤2^15:=Nat.pow_le_pow_right (by omega) k2;exact(Fz w v k (2^k) ⟨k1,k2⟩ (by simp) ⟨by omega,by omega⟩ hv (by omega) h1 hw).mono fun e w' ⟨he,m,hw'⟩=>⟨he,by rw[hw'];exact below_drewN (Below.refl _ _) m⟩
theorem kg(w:World)(c:Nat)(hc:c<256):Calls prog 185 #[.int .u8 (c:Int)] w fun e w'=>e=.returned (.tuple #[.int .i64 (max (cK c) 0),.bool (decide (0≤cK c))])∧w=w':=by
 obtain⟨r,hr⟩:∃r,r=max (cK c) 0:=⟨_,rfl⟩;obtain⟨t,ht⟩:∃t,t=decide (0≤cK c):=⟨_,rfl⟩;rw[←hr,←ht];unfold cK at hr ht;by_cases h27:27<c
 ·rw[if_neg (by omega),if_pos h27]at hr ht;have hr':r=0:=by rw[hr];rfl
  have ht':t=false:=by rw[ht];rfl
  clear hr ht;subst hr' ht';have d1:decide (27<c)=true:=decide_eq_true h27;have d1':decide (27<(c:Int))=true:=decide_eq_true (by omega);go_enter func185,ntmps185
  go_wp2;go_ret2;exact⟨rfl,rfl⟩
 ·have d1:decide (27<c)=false:=decide_eq_false h27;have d1':decide (27<(c:Int))=false:=decide_eq_false (by omega);by_cases h16:c<16
  ·rw[if_pos h16]at hr ht;have hr':r=0:=by rw[hr];rfl
   have ht':t=true:=by rw[ht];rfl
   clear hr ht;subst hr' ht';have d2:decide (c<16)=true:=decide_eq_true h16;have d2':decide ((c:Int)<16)=true:=decide_eq_true (by omega);go_enter func185,ntmps185
   go_wp2;go_ret2;exact⟨rfl,rfl⟩
  ·rw[if_neg h16,if_neg h27]at hr ht;have ht':t=true:=by rw[ht];exact decide_eq_true (by omega)
   have hr':(c:Int)-16+4=r:=by rw[hr];omega
   clear hr ht;subst ht';have d2:decide (c<16)=false:=decide_eq_false h16;have d2':decide ((c:Int)<16)=false:=decide_eq_false (by omega);have Hr:=hid hr';clear hr';go_enter func185,ntmps185
   go_wp2;rw[Hr.out];go_ret2;exact⟨rfl,rfl⟩
theorem LP(w:World)(c m:Nat)(hc:c<256)(h:cK c<0):Calls prog 186 #[.int .u8 (c:Int),.int .u32 (m:Int)] w fun e w'=>e=.returned (.tuple #[.int .i64 0,.bool false])∧w=w':=by
 have He:=hid (kg w c hc);rw[Int.max_eq_right (by omega),decide_eq_false (by omega)]at He;clear h;go_enter func186,ntmps186
 go_wp2_with fail
 refine He.out.mono ?_;rintro e w' ⟨rfl,rfl⟩;go_wp2;go_ret2;exact⟨rfl,rfl⟩
theorem FE(w:World)(c m k q:Nat)(hc:c<256)(hm:m<4294967296)(h:cK c=(k:Int))(hq:Bm.wid m=q)(hkq:k<q):Calls prog 186 #[.int .u8 (c:Int),.int .u32 (m:Int)] w fun e w'=>e=.returned (.tuple #[.int .i64 0,.bool false])∧w=w':=by
 have He:=hid (kg w c hc);rw[h,Int.max_eq_left (by omega),decide_eq_true (by omega)]at He;have Hw:=hid (iG m w hm);rw[hq]at Hw;have d1:decide (k<q)=true:=decide_eq_true hkq;have d1':decide ((k:Int)<(q:Int))=true:=decide_eq_true (by omega);clear h hq;go_enter func186,ntmps186
 go_wp2_with fail
 refine He.out.mono ?_;rintro e w' ⟨rfl,rfl⟩;go_wp2_with fail
 refine Hw.out.mono ?_;rintro e w' ⟨rfl,rfl⟩;go_wp2;go_ret2;exact⟨rfl,rfl⟩
theorem Dj(w:World)(c:Nat)(hc:c<16):Calls prog 186 #[.int .u8 (c:Int),.int .u32 0] w fun e w'=>e=.returned (.tuple #[.int .i64 (c:Int),.bool true])∧w=w':=by
 have He:=hid (kg w c (by omega));have h:cK c=0:=by unfold cK;rw[if_pos hc]
 rw[h]at He;have hmx:max (0:Int) 0=0:=rfl;rw[hmx,decide_eq_true (by omega)]at He;have Hw:=hid (iG 0 w (by omega));have hq:Bm.wid 0=0:=rfl;rw[hq]at Hw;have hcw:wrap64 (c:Int)=(c:Int):=by unfold wrap64;omega
 clear h hq hmx;go_enter func186,ntmps186
 go_wp2_with fail
 refine He.out.mono ?_;rintro e w' ⟨rfl,rfl⟩;go_wp2_with fail
 refine Hw.out.mono ?_;rintro e w' ⟨rfl,rfl⟩;go_wp2;go_ret2;exact⟨rfl,rfl⟩
theorem FH(w:World)(c m k q P:Nat)(hc:c<256)(h:cK c=(k:Int))(hk:4≤k∧k≤15)(hP:(2:Int)^k=(P:Int))(hPk:16≤P∧P≤32768)(hm:m<P)(hq:Bm.wid m=q)(hqk:q≤k):Calls prog 186 #[.int .u8 (c:Int),.int .u32 (m:Int)] w fun e w'=>e=.returned (.tuple #[.int .i64 ((P+m:Nat):Int),.bool true])∧w=w':=by
 have HP:=hid hP;clear hP;have He:=hid (kg w c hc);rw[h,Int.max_eq_left (by omega),decide_eq_true (by omega)]at He;have Hw:=hid (iG m w (by omega));rw[hq]at Hw;have d1:decide (k<q)=false:=decide_eq_false (by omega);have d1':decide ((k:Int)<(q:Int))=false:=decide_eq_false (by omega);have d2:((k:Int) == 0)=false:=by simp;omega
 have hmw:wrap64 (m:Int)=(m:Int):=by unfold wrap64;omega
 have e4':wrap64 ((P:Nat):Int)=((P:Nat):Int):=by unfold wrap64;omega
 have e5:wrap64 ((P:Int)+(m:Int))=(P:Int)+(m:Int):=by unfold wrap64;omega
 have hk0:0≤(k:Int):=by omega
 rw[Int.natCast_add];have hP:=HP.out;clear h hq HP;go_enter func186,ntmps186
 go_wp2_with fail
 refine He.out.mono ?_;rintro e w' ⟨rfl,rfl⟩;go_wp2_with fail
 refine Hw.out.mono ?_;rintro e w' ⟨rfl,rfl⟩;go_wp2;go_ret2;exact⟨rfl,rfl⟩
theorem Di:aer:=by
 intro w c m hc hm;rcases VH c with h | ⟨k,h,hk⟩
 ·rw[YB c m (by omega)];exact(LP w c m hc (by omega)).mono fun e w' ⟨he,hw⟩=>⟨he,hw▸Below.refl _ _⟩
 ·by_cases hmk:m<2^k
  ·have hwm:=eB m k hmk;by_cases h16:c<16
   ·have hk0:k=0:=by unfold cK at h;rw[if_pos h16]at h;omega
    subst hk0;have hm0:m=0:=by omega
    subst hm0;have hv:iF c 0=some c:=by unfold iF;rw[if_pos h16,if_pos rfl]
    rw[hv];exact(Dj w c h16).mono fun e w' ⟨he,hw⟩=>⟨he,hw▸Below.refl _ _⟩
   ·have h27:¬27<c:=fun h27=>by unfold cK at h;rw[if_neg h16,if_pos h27]at h;omega
    have hkc:c-12=k:=by unfold cK at h;rw[if_neg h16,if_neg h27]at h;omega
    have hv:iF c m=some (2^k+m):=by unfold iF;rw[if_neg h16,if_neg h27,hkc,if_pos hmk]
    rw[hv];have h4:2^4≤2^k:=Nat.pow_le_pow_right (by omega) (by omega);have h15:2^k≤2^15:=Nat.pow_le_pow_right (by omega) hk;exact(FH w c m k _ (2^k) hc h ⟨by omega,hk⟩ (by simp) ⟨by omega,by omega⟩ hmk rfl hwm).mono fun e w' ⟨he,hw⟩=>⟨he,hw▸Below.refl _ _⟩
  ·have hn:iF c m=none:=(Nq c m k h).2 (by
    have:=Nat.two_pow_pos k;rw[ne_eq,Nat.div_eq_zero_iff];omega)
   rw[hn];have hq:k<Bm.wid m:=by
    rcases Nat.lt_or_ge k (Bm.wid m)with hq | hq
    ·exact hq
    ·exact absurd (Nat.lt_of_lt_of_le (qK m) (Nat.pow_le_pow_right (by omega) hq)) hmk
   exact(FE w c m k _ hc hm h rfl hq).mono fun e w' ⟨he,hw⟩=>⟨he,hw▸Below.refl _ _⟩
end Go.Proofs.YtgiicohbigiapaaGreat
