/- Digests that are the same are told to be so. -/
import Derived.Test.YtpliokkmiijieaaDoorLaid
import Derived.ChangeKeysEq
namespace Go.Proofs.YtpliokkmiijieaaDoor
open Go.RowKit
set_option linter.unusedVariables false
set_option maxRecDepth 4000

theorem part_byte (xs : List Int) (i : Nat) (hi : i < xs.length) (w : World) : (part 5 (u8s xs).toArray (i * 1)).run Tryd.prog w = .ok (.int .u8 (xs.getD i 0)) w := by
  unfold part
  rw [Sem.run_bind]
  have ha : (isAgg 5).run Tryd.prog w = .ok false w := by
    unfold isAgg
    rw [Sem.run_bind, run_underlying Tryd.underlying5 w]; rfl
  rw [ha]
  simp [u8s, hi, List.getD]
theorem items_same (xs : List Int) (w : World) : ∀ is : List Nat, (∀ i ∈ is, i < xs.length) → (Op.eqItems 9999 5 1 (u8s xs).toArray (u8s xs).toArray is).run Tryd.prog w = .ok true w
  | [], _ => rfl
  | i :: is, h => by
    unfold Op.eqItems
    rw [Sem.run_bind, part_byte xs i (h i (by simp)), Result.andThen_ok, Sem.run_bind, part_byte xs i (h i (by simp)), Result.andThen_ok, Sem.run_bind, run_equalIn_int w 9998 5 .u8 .u8 _ _ Tryd.underlying5]
    simpa using items_same xs w is (fun j hj => h j (by simp [hj]))
theorem eq_same (xs : List Int) (hx : xs.length = 32) (w : World) : (Op.equalIn 10000 59 (.agg (u8s xs).toArray) (.agg (u8s xs).toArray)).run Tryd.prog w = .ok true w := by
  cases hq : Tryd.prog.info? 5 with
  | none => have := Tryd.byte1; simp [hq] at this
  | some i =>
    have hc : Tryd.prog.cellsOf 5 = 1 := by kernel_rfl
    rw [run_equalIn_array w 9999 _ _ Tryd.underlying59 hq, hc]
    exact items_same xs w _ (fun i hi => by rw [hx]; simpa using hi)
theorem sum_same (s : St) (w : World) : (Op.equalIn 10000 59 (.agg (u8s (sumI s)).toArray) (.agg (u8s (sumI s)).toArray)).run Tryd.prog w = .ok true w := eq_same _ (sumI_length s) w
end Go.Proofs.YtpliokkmiijieaaDoor
