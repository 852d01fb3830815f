/- Contracts, and what they rest on. Conditions: the theorems' premises. -/
import Derived.Test.YtgiicohbigiapaaGreatYae
set_option maxHeartbeats 4000000
set_option maxRecDepth 100000
open Go.Lib(hid)
open Go.Proofs.Tryz
namespace Go.Proofs.YtgiicohbigiapaaGreat
open Go.RowKit
theorem TG(x:Nat)(w:World)(hx:x<4294967296) :
  Calls prog 130 #[.int .u32 (x:Int)] w fun e w'=>e=.returned (.int .i64 (Lib.bitLen x:Int))∧w=w':=by
 have h:=Tryz.bits_Len32 (x:Int) w (by omega) (by omega);rw[Int.toNat_natCast]at h;have H:=hid h;clear h;go_enter func130,ntmps130
 go_wp2_with fail
 refine H.out.mono ?_;rintro e w' ⟨rfl,rfl⟩;go_wp2;go_ret;exact⟨rfl,rfl⟩
end Go.Proofs.YtgiicohbigiapaaGreat
