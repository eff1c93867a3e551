/- A list of bytes as a string. -/
import Derived.Test.YtpliokkmiijieaaDoorEqual
import Derived.Laws.BytesArg
namespace Go.Proofs.YtpliokkmiijieaaDoor
open Go.RowKit
set_option linter.unusedVariables false
set_option maxRecDepth 4000
theorem str_of (w : World) (a : Option Addr) (n c : Nat) (zs : List Int) (h : BIn w a n zs) : (convert 22 9 (.slice a n c)).run Tryd.prog w = .ok (.string (strOfNums zs)) w := by
  obtain ⟨hl, _, _, hc⟩ := h
  by_cases h0 : n = 0
  · subst h0
    obtain rfl := List.length_eq_zero_iff.1 hl
    cases a with
    | none => exact run_convert_bytes_nil w 22 5 Tryd.underlying22 Tryd.underlying5 0 c 9 Tryd.underlying9
    | some ad =>
      have hl : (loadCells ad 0).run Tryd.prog w = .ok (([] : List Int).map (Value.int .u8)).toArray w := by simp [loadCells, loadCellsFrom]
      rw [run_convert_bytes_string w 22 9 5 _ 0 c Tryd.underlying22 Tryd.underlying5 Tryd.underlying9, run_bytesToString w _ 0 c [] hl, foldl_push_bytes]
      rfl
  · obtain ⟨b, off, rfl, hcell⟩ := hc.resolve_left h0
    exact run_convert_bytes_arg w 22 5 Tryd.underlying22 Tryd.underlying5 b off n c zs hl hcell 9 Tryd.underlying9
end Go.Proofs.YtpliokkmiijieaaDoor
