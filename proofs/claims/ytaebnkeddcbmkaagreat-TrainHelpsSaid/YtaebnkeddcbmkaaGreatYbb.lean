/- Contracts, and what they rest on. Conditions: the theorems' premises. -/
import Derived.Test.YtaebnkeddcbmkaaGreatYba
set_option maxHeartbeats 4000000
set_option maxRecDepth 100000
open Go.Lib(hid)
open Go.Proofs.Tryz Go.Proofs.YtaebnkeddcbmkaaGreat.Bm
namespace Go.Proofs.YtaebnkeddcbmkaaGreat
open Go.RowKit
theorem JO(R:List ByteArray)(s:ByteArray)(h:s∈R):s.size<=Bm.sizeT R:=by
 induction R with
 | nil=>simp at h
 | cons x R ih=>
  rw[Bm.AL];rcases List.mem_cons.1 h with rfl | h
  ·omega
  ·have:=ih h;omega
theorem Ki(A:Option Addr)(c:Nat)(R:List ByteArray)(sz lv:Int)(w:World)(hlv:bO lv)(hR:R.length<=9223372036854775807)(hc:R.length<=c)(hs:∀s∈R,s.size<=140737488351232)(hrd:Reads w A (jF R))(hmax:zx w.heap.size w) :
  Calls prog 3 #[.slice A R.length c,.int .i64 sz,.int .i64 lv] w fun e w'=>e=.returned (.bool true)/\Below w.heap.size w w':=by
 have Haw:=hid (Qb w hmax);have Hrd:=hid hrd;have Hs:=hid hs;have Hc:=hid hc;have XK:=hid hmax;have Hlv:=hid hlv;obtain⟨r,hr⟩:∃r,r=decide (R.length<=20/\Bm.sizeT R<=400):=⟨_,rfl⟩;have Hsm:Hid (∀W,Below w.heap.size w W->Calls prog 5 #[.slice A R.length c,.int .i64 20,.int .i64 400] W fun e w'=>e=.returned (.bool r)/\w'=W):=hid (fun W hW=>by
  have h1:=Qe A c R 20 400 W (by decide) (by decide) hR hs (aC hrd hW);rw[<-hr]at h1;exact h1)
 have Hrr:=hid hr;clear hrd hs hmax hc hr hlv;go_enter func3,ntmps3
 go_wp2_with fail
 refine Haw.out.mono ?_;rintro e w1 ⟨rfl,hb1⟩;have Hb1:=hid hb1;clear hb1 Haw;go_wp2_with fail
 refine(Hsm.out w1 Hb1.out).mono ?_;rintro e w2 ⟨rfl,rfl⟩;clear Hsm;cases r with
 | false=>
  go_wp2;go_ret;exact⟨rfl,Hb1.out⟩
 | true=>
  have hsmall:R.length<=20/\Bm.sizeT R<=400:=by have:=Hrr.out;simpa using this.symm
  obtain⟨ard,aiW⟩:=hsmall;obtain⟨d,hd⟩:∃d,d=Ba R sz:=⟨_,rfl⟩;have hds:d.size<=256:=by rw[hd];exact Nat.le_trans (Kk R sz) (WU sz)
  have Htr:=hid (Bb A c R sz w2 hR Hc.out Hs.out (aC Hrd.out Hb1.out) (Jb XK.out Hb1.out));rw[<-hd]at Htr;obtain⟨D,hD,hDlt⟩:=of_string d;have hDl:D.length<=256:=by rw[hD,aA]at hds;exact hds
  have adH:Hid (∀(X:List Nat) (W:World),X.length<=512->(∀x∈X,x<256)->Calls prog 7 #[.string (strOf X),.string d,.int .i64 1,.int .i64 lv] W fun e w'=>(∃S,aht D X 1 S/\e=.returned (.tuple #[.string (strOf S),.int .i64 0]))/\Below W.heap.size W w'):=hid (fun X W hX hXlt=>by
   rw[hD];exact aiq D X 1 lv W hDl hX hDlt hXlt (by decide) Hlv.out)
  have acB:Hid (∀(X S:List Nat) (W:World),aht D X 1 S->X.length<=512->Calls prog 8 #[.string (strOf S),.string d,.int .i64 512] W fun e w'=>e=.returned (.tuple #[.string (strOf X),.int .i64 0])/\Below W.heap.size W w'):=hid (fun X S W hf hX=>by
   have h1:=aip hf D 512 W hX (by omega) hDlt;rw[hf.yes 512 (by omega),<-hD]at h1;exact h1)
  have Hst:Hid (∀s∈R,s.size<=400):=hid (fun s h=>Nat.le_trans (JO R s h) aiW);clear hd hds hD hDlt hDl aiW;go_wp2_with fail
  refine Htr.out.mono ?_;rintro e w3 ⟨rfl,hb3⟩;have Hb3:=hid (Hb1.out.trans (hb3.mono Hb1.out.size));clear hb3 Htr;go_wp2;go_loopw [24] (fun iv wr=>∃i:Nat,iv=.int .i64 (i:Int)/\i<=R.length/\Hid (Below w.heap.size w wr)) (fun iv _=>R.length-(intOf iv).toNat)
  case atStart=>exact⟨0,rfl,Nat.zero_le _,Hb3⟩
  case round=>
   obtain⟨i,rfl,hi,Hb⟩:=hrel;by_cases hil:i<R.length
   ·obtain⟨gA,oA,eA,hcA⟩:=iF (aC Hrd.out Hb.out) (by omega);subst eA;have hcell:=hcA i hil;obtain⟨s,hsd⟩:∃s,s=R[i]:=⟨_,rfl⟩;rw[<-hsd]at hcell;have hs4:s.size<=400:=by rw[hsd];exact Hst.out _ (List.getElem_mem hil)
    obtain⟨X,hX,hXlt⟩:=of_string s;have hXl:X.length<=512:=by rw[hX,aA]at hs4;omega
    have He:=hid (adH.out X wr hXl hXlt);have Hd:=hid (fun(S:List Nat) W hf=>acB.out X S W hf hXl);rw[<-hX]at He Hd;have heq:(s.toList == s.toList)=true:=beq_self_eq_true _;clear hcA hsd hX hXlt hXl;go_wp2_with fail
    refine He.out.mono ?_;rintro e w4 ⟨⟨S,hf,rfl⟩,hb4⟩;have Hb4:=hid (Hb.out.trans (hb4.mono Hb.out.size));have Hd2:=hid (Hd.out S w4 hf);clear hf hb4 He Hd;go_wp2_with fail
    refine Hd2.out.mono ?_;rintro e w5 ⟨rfl,hb5⟩;have Hb5:=hid (Hb4.out.trans (hb5.mono Hb4.out.size));clear hb5 Hd2;go_wp2;go_roundw
    case rel=>exact⟨i+1,by go_num,by omega,Hb5⟩
    case measure=>simp[intOf];omega
   ·go_wp2;go_ret;exact⟨rfl,Hb.out⟩
end Go.Proofs.YtaebnkeddcbmkaaGreat
