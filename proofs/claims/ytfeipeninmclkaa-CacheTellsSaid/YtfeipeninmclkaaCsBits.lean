/-
  What is proved: math/bits.Len by contract (the library's, laid at this program), and slices.nextPowerOfTwo.
  Conditions: the number fits its type.
-/
import Derived.Shelf.Small.Bits
import Derived.Test.YtfeipeninmclkaaCsIns
namespace Go.Proofs.Ytfeipeninmclkaa
open Go.RowKit Go.Shelf

def bits_ren : Go.Shelf.Ren := ⟨fun | 125 => 44 | 128 => 54 | 129 => 55 | n => n, fun | 3 => 3 | 4 => 4 | 5 => 5 | 9 => 9 | 46 => 58 | 51 => 31 | 53 => 22 | n => n, fun n => n⟩
theorem bits_lay : Lays.n125 Try.prog bits_ren := {
  mixed := by kernel_rfl,
  f125 := Try.func44.trans (congrArg some (by kernel_rfl)),
  f128 := Try.func54.trans (congrArg some (by kernel_rfl)),
  f129 := Try.func55.trans (congrArg some (by kernel_rfl)),
  t3 := Try.underlying3, a3 := Try.isAgg3, z3 := Try.sizeOf3, v3 := Try.zeroValue3,
  t4 := Try.underlying4, a4 := Try.isAgg4, z4 := Try.sizeOf4, v4 := Try.zeroValue4,
  t5 := Try.underlying5, a5 := Try.isAgg5, z5 := Try.sizeOf5, v5 := Try.zeroValue5,
  t9 := Try.underlying9, a9 := Try.isAgg9, z9 := Try.sizeOf9, v9 := Try.zeroValue9,
  t46 := Try.underlying58, a46 := Try.isAgg58, z46 := Try.sizeOf58, v46 := Try.zeroValue58,
  t51 := Try.underlying31, a51 := Try.isAgg31, z51 := Try.sizeOf31, v51 := Try.zeroValue31,
  t53 := Try.underlying22, a53 := Try.isAgg22, z53 := Try.sizeOf22, v53 := Try.zeroValue22 }
theorem len_any (x : Int) (w : World) (h0 : 0 ≤ x) (h1 : x ≤ 18446744073709551615) :
    Calls Try.prog 44 #[.int .u64 x] w fun e w' => e = .returned (.int .i64 (Lib.bitLen x.toNat)) ∧ w' = w := Any.bits_Len bits_lay x w h0 h1
end Go.Proofs.Ytfeipeninmclkaa
