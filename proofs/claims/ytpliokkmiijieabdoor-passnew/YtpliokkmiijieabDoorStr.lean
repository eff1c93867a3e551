/- A list of bytes as a string. -/
import Derived.Test.YtpliokkmiijieabDoorKeep
import Derived.Laws.BytesArg
namespace Go.Proofs.YtpliokkmiijieabDoor
open Go.RowKit
set_option linter.unusedVariables false
set_option maxRecDepth 4000
theorem byte_fits {B : List Int} (h : ∀ z ∈ B, Fits8 z) (i : Nat) : Fits8 (B.getD i 0) := by
  by_cases hi : i < B.length
  · have : B.getD i 0 = B[i] := by simp [List.getD, hi]
    rw [this]; exact h _ (List.getElem_mem hi)
  · have : B.getD i 0 = 0 := by simp [List.getD, List.getElem?_eq_none (by omega : B.length ≤ i)]
    rw [this]; unfold Fits8; omega
theorem str_of (w : World) (a : Option Addr) (n c : Nat) (zs : List Int) (h : BIn w a n zs) : (convert 31 9 (.slice a n c)).run Tryd.prog w = .ok (.string (strOfNums zs)) w := by
  obtain ⟨hl, _, _, hc⟩ := h
  by_cases h0 : n = 0
  · subst h0
    obtain rfl := List.length_eq_zero_iff.1 hl
    cases a with
    | none => exact run_convert_bytes_nil w 31 5 Tryd.underlying31 Tryd.underlying5 0 c 9 Tryd.underlying9
    | some ad =>
      have hl : (loadCells ad 0).run Tryd.prog w = .ok (([] : List Int).map (Value.int .u8)).toArray w := by simp [loadCells, loadCellsFrom]
      rw [run_convert_bytes_string w 31 9 5 _ 0 c Tryd.underlying31 Tryd.underlying5 Tryd.underlying9, run_bytesToString w _ 0 c [] hl, foldl_push_bytes]
      rfl
  · obtain ⟨b, off, rfl, hcell⟩ := hc.resolve_left h0
    exact run_convert_bytes_arg w 31 5 Tryd.underlying31 Tryd.underlying5 b off n c zs hl hcell 9 Tryd.underlying9
end Go.Proofs.YtpliokkmiijieabDoor
