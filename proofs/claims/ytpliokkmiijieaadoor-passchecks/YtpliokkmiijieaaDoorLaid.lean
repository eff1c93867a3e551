/- From the rows' condition (what the program's two tables hold) to what the walks ask; a world that meets it. -/
import Derived.Test.YtpliokkmiijieaaDoorRows
import Derived.Test.YtpliokkmiijieaaDoorBase
import Derived.ProofKit
import Derived.LaidMore
import Derived.Lib.LaidTab
import Derived.Stop.LaidErr
import Derived.OpenShut
namespace Go.Proofs.YtpliokkmiijieaaDoor
open Go.RowKit
set_option linter.unusedVariables false

theorem own : ownKnob Tryd.prog.godebug = none := by kernel_rfl
theorem laidOut : laidOutB Tryd.prog = true := by kernel_rfl
def laid2 : List (String × DataW Unit) := [("coaming/sha.start", Rows.laid_coaming_sha_start), ("coaming/sha.roundAdds", Rows.laid_coaming_sha_roundAdds)]
theorem gStart : Tryd.prog.globalNamed "coaming/sha.start" = some 0 := by kernel_rfl
theorem gAdds : Tryd.prog.globalNamed "coaming/sha.roundAdds" = some 1 := by kernel_rfl
theorem tStart : (Tryd.prog.globals[0]?).map (·.type) = some 98 := by kernel_rfl
theorem tAdds : (Tryd.prog.globals[1]?).map (·.type) = some 107 := by kernel_rfl

set_option maxRecDepth 100000 in
theorem door_met (os : Os) (args : Array Value) : laidMetH Tryd.prog laid2 ((World.doorLaid Tryd.prog 400 os).forCall (fun _ _ => 0) ⟨#[], args, []⟩).memory :=
  laidMetH_of_parts3 (fuel := 8) (laidMet_of_run' 8 (by kernel_rfl) (by kernel_rfl)) (by kernel_rfl) (by kernel_rfl)

theorem of_laid {W : World} (h : laidMetH Tryd.prog laid2 W) : GIn W := by
  rw [MakeChecks.laidMetH_plain _ _ _ (by kernel_rfl)] at h
  have h1 : laidMet Tryd.prog (("coaming/sha.start", Lib.tabData .u32 startS) :: [("coaming/sha.roundAdds", Lib.tabData .u32 roundK)]) W := h
  have t1 := Lib.tabIs_of_head gStart tStart Tryd.underlying98 Tryd.underlying23 (by kernel_rfl) (by kernel_rfl) h1
  have t2 := Lib.tabIs_of_head gAdds tAdds Tryd.underlying107 Tryd.underlying23 (by kernel_rfl) (by kernel_rfl) h1.tail
  exact ⟨fun i hi => t1.cell gStart i hi, fun i hi => t2.cell gAdds i hi⟩

/-- A slice of bytes that came in, as the row tells it, is a list that lies in the world. -/
theorem row_bin {w : World} {a : Option Addr} {len cap : Nat} {zs : List Int}
    (h : (a = none ∧ len = 0 ∧ cap = 0 ∧ zs = []) ∨
      ∃ x, a = some x ∧ len ≤ cap ∧ cap ≤ maxLen ∧ zs.length = cap ∧ (∀ i, i < zs.length → w.cell? (x.add i) = some (.int .u8 (zs.getD i 0))) ∧ ∀ n ∈ zs, (Lit.int .u8 n).wf = true) :
    BIn w a len (zs.take len) ∧ len ≤ cap ∧ (a = none → len = 0 ∧ cap = 0) := by
  rcases h with ⟨rfl, rfl, rfl, rfl⟩ | ⟨x, rfl, hl, hm, hz, hc, hw⟩
  · exact ⟨⟨rfl, Nat.zero_le _, by simp, .inl rfl⟩, Nat.le_refl _, fun _ => ⟨rfl, rfl⟩⟩
  · refine ⟨⟨by simp [hz]; omega, Nat.le_trans hl hm, fun z h => ?_, ?_⟩, hl, fun h => by cases h⟩
    · have := bounds_u8 (hw z (List.mem_of_mem_take h))
      unfold Fits8
      omega
    · by_cases h0 : len = 0
      · exact .inl h0
      · have hc0 := hc 0 (by omega)
        obtain ⟨b, off, spot⟩ := x
        have hs : spot = none := by simpa [Addr.add] using World.cell?_spot hc0
        subst hs
        refine .inr ⟨b, off, rfl, fun i hi => ?_⟩
        have := hc i (by omega)
        rw [Addr.add_mid] at this
        simpa [List.getD, List.getElem?_take, hi] using this
end Go.Proofs.YtpliokkmiijieaaDoor
