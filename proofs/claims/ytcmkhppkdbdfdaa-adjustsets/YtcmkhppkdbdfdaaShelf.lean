/- The contracts of the library functions that this program calls, laid over its translation by the shelf's own tool, in plain words. -/
import Derived.Shelf.Bits.Mul64
import Derived.Test.YtcmkhppkdbdfdaaProg
namespace Go.Proofs
open Go.Shelf
def Try.lays212_ren : Go.Shelf.Ren := ⟨fun | 212 => 24 | 263 => 25 | 264 => 26 | n => n, fun | 46 => 46 | 51 => 49 | 146 => 50 | 53 => 52 | 148 => 53 | n => n, fun | n => n⟩
theorem Try.lays212 : Go.Proofs.Lays.n212 Try.prog Try.lays212_ren := {
  mixed := by kernel_rfl
  f212 := Try.func24.trans (congrArg some (by kernel_rfl))
  f263 := Try.func25.trans (congrArg some (by kernel_rfl))
  f264 := Try.func26.trans (congrArg some (by kernel_rfl))
  t46 := Try.underlying46
  a46 := Try.isAgg46
  z46 := Try.sizeOf46
  v46 := Try.zeroValue46
  t51 := Try.underlying49
  a51 := Try.isAgg49
  z51 := Try.sizeOf49
  v51 := Try.zeroValue49
  t53 := Try.underlying52
  a53 := Try.isAgg52
  z53 := Try.sizeOf52
  v53 := Try.zeroValue52
  t146 := Try.underlying50
  a146 := Try.isAgg50
  z146 := Try.sizeOf50
  v146 := Try.zeroValue50
  t148 := Try.underlying53
  a148 := Try.isAgg53
  z148 := Try.sizeOf53
  v148 := Try.zeroValue53 }
open Go.RowKit Go.Lib in
/-- math/bits.Mul: "Mul returns the full-width product of x and y": on a machine of 64 bits: Mul64's. (LAID: no walk: one application.) -/
theorem Try.bits_Mul (x y : Nat) (hx : x < 18446744073709551616) (hy : y < 18446744073709551616) (w : World) :
    Calls Try.prog 24 #[.int .u64 x, .int .u64 y] w fun e w' => e = .returned (.tuple #[.int .u64 ((x * y / 18446744073709551616 : Nat) : Int), .int .u64 ((x * y % 18446744073709551616 : Nat) : Int)]) ∧ w' = w := Any.bits_Mul Try.lays212 x y hx hy w
end Go.Proofs
