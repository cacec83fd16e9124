/- The library's contracts at this translation, laid in plain words by the kit's own tools. -/
import Derived.Shelf.Bits.Mul64
import Derived.Test.YtbpppeekfjfolaaProg
namespace Go.Proofs.Ytbpppeekfjfolaa
open Go.Shelf
def mul64Ren : Go.Shelf.Ren := ⟨fun | 264 => 50 | n => n, fun | 53 => 36 | 46 => 53 | n => n, fun | n => n⟩
theorem mul64Lays : Go.Proofs.Lays.n264 Try.prog mul64Ren := {
  mixed := by kernel_rfl
  f264 := Try.func50.trans (congrArg some (by kernel_rfl))
  t46 := Try.underlying53
  a46 := Try.isAgg53
  z46 := Try.sizeOf53
  v46 := Try.zeroValue53
  t53 := Try.underlying36
  a53 := Try.isAgg36
  z53 := Try.sizeOf36
  v53 := Try.zeroValue36 }
open Go.RowKit Go.Lib in
theorem bits_Mul64 (x y : Nat) (hx : x < 18446744073709551616) (hy : y < 18446744073709551616) (w : World) :
    Calls Try.prog 50 #[.int .u64 x, .int .u64 y] w fun e w' => e = .returned (.tuple #[.int .u64 ((x * y / 18446744073709551616 : Nat) : Int), .int .u64 ((x * y % 18446744073709551616 : Nat) : Int)]) ∧ w' = w := Any.bits_Mul64 mul64Lays x y hx hy w
end Go.Proofs.Ytbpppeekfjfolaa
