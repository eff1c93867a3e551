/- math/bits.Len, laid at this program. -/
import Derived.Shelf.Small.Bits
import Derived.Test.YtkhldjpghjmgfaaProg
namespace Go.Proofs.Ytkhldjpghjmgfaa
open Go.Shelf Go.Lib
set_option linter.unusedVariables false
set_option maxRecDepth 4000

def Try.blenL_ren : Go.Shelf.Ren := ⟨fun | 125 => 43 | 128 => 53 | 129 => 54 | n => n, fun | 46 => 78 | 3 => 3 | 51 => 33 | 53 => 34 | 4 => 4 | 5 => 5 | 9 => 9 | n => n, fun | n => n⟩
theorem Try.blenL : Go.Proofs.Lays.n125 Try.prog Try.blenL_ren := {
  mixed := by kernel_rfl,
  f125 := Try.func43.trans (congrArg some (by kernel_rfl)),
  f128 := Try.func53.trans (congrArg some (by kernel_rfl)),
  f129 := Try.func54.trans (congrArg some (by kernel_rfl)),
  t3 := Try.underlying3,
  a3 := Try.isAgg3,
  z3 := Try.sizeOf3,
  v3 := Try.zeroValue3,
  t4 := Try.underlying4,
  a4 := Try.isAgg4,
  z4 := Try.sizeOf4,
  v4 := Try.zeroValue4,
  t5 := Try.underlying5,
  a5 := Try.isAgg5,
  z5 := Try.sizeOf5,
  v5 := Try.zeroValue5,
  t9 := Try.underlying9,
  a9 := Try.isAgg9,
  z9 := Try.sizeOf9,
  v9 := Try.zeroValue9,
  t46 := Try.underlying78,
  a46 := Try.isAgg78,
  z46 := Try.sizeOf78,
  v46 := Try.zeroValue78,
  t51 := Try.underlying33,
  a51 := Try.isAgg33,
  z51 := Try.sizeOf33,
  v51 := Try.zeroValue33,
  t53 := Try.underlying34,
  a53 := Try.isAgg34,
  z53 := Try.sizeOf34,
  v53 := Try.zeroValue34 }
theorem bitLen_small : ∀ n : Nat, n < 1001 → 1 ≤ n → 2 ^ Lib.bitLen n ≤ 2 * n ∧ Lib.bitLen n ≤ 10 := by decide +kernel
theorem blen_of (x : Nat) (hx : x ≤ 1000) (h1 : 1 ≤ x) (w : World) : Calls Try.prog 43 #[.int .u64 x] w fun e w' => (∃ L : Nat, e = .returned (.int .i64 L) ∧ 2 ^ L ≤ 2 * x ∧ L ≤ 10) ∧ w' = w := by
  have h := Any.bits_Len Try.blenL (x : Int) w (by omega) (by omega)
  refine h.mono ?_
  rintro e w' ⟨rfl, rfl⟩
  exact ⟨⟨_, rfl, by rw [Int.toNat_natCast]; exact bitLen_small x (by omega) h1⟩, rfl⟩
end Go.Proofs.Ytkhldjpghjmgfaa
