/- What Take's deferred function does. -/
import Derived.Test.YteokhkoaieibmaaWNumber
import Derived.Defers
import Derived.Recover
namespace Go.Proofs.Yteokhkoaieibmaa
open Go.RowKit
set_option linter.unusedVariables false
set_option maxRecDepth 4000

theorem catch_idle (p q r : Addr) (w : World) :
    CallsD Try.prog 90 #[.pointer (some p), .pointer (some q), .pointer (some r)] .returning w fun e u' w' => e = .returned (.tuple #[]) ∧ u' = .returning ∧ w' = w := by
  refine callsD_of_wpS Try.func90 rfl fun c₀ cs hu => ?_
  apply wpS_seq
  apply wpS_region
  simp [wpOpsS, go_sem, recoverD, hu, Try.ntmps90, Exit.thenS]
  refine wpS_cond (t := false) (by simp [Act.eval, Array.replicate]) ?_
  simp only [Bool.false_eq_true, if_false]
  refine wpS_of_wp (wp_skip ?_)
  cases c₀
  simp_all [bodyPostS, results, Try.results90]
theorem catch_panicking (g : Nat) (u : TypeId) (pv : Value) (older : List PanicEntry) (w : World) (v0 v1 v2 : Value)
    (hp : w.cell? ⟨g, 0, none⟩ = some v0) (hq : w.cell? ⟨g + 1, 0, none⟩ = some v1) (hr : w.cell? ⟨g + 2, 0, none⟩ = some v2) (zp : w.frozen? ⟨g, 0, none⟩ = false) (zq : w.frozen? ⟨g + 1, 0, none⟩ = false) (zr : w.frozen? ⟨g + 2, 0, none⟩ = false) :
    CallsD Try.prog 90 #[.pointer (some ⟨g, 0, none⟩), .pointer (some ⟨g + 1, 0, none⟩), .pointer (some ⟨g + 2, 0, none⟩)] (.panicking ({ v := .iface u pv, recovered := false } :: older)) w fun e u' w' =>
      e = .returned (.tuple #[]) ∧ u' = .panicking ({ v := .iface u pv, recovered := true } :: older) ∧ w' = ((w.setCell ⟨g, 0, none⟩ (.slice none 0 0)).setCell ⟨g + 1, 0, none⟩ (.slice none 0 0)).setCell ⟨g + 2, 0, none⟩ (.bool false) := by
  refine callsD_of_wpS Try.func90 rfl fun c₀ cs hu => ?_
  apply wpS_seq
  apply wpS_region
  simp [wpOpsS, go_sem, recoverD, hu, Try.ntmps90, Exit.thenS]
  refine wpS_cond (t := true) (by simp [Act.eval, Array.replicate]) ?_
  simp only [if_true]
  apply wpS_region
  simp [wpOpsS, go_sem, hp, hq, hr, zp, zq, zr, bodyPostS, results, Try.results90]

end Go.Proofs.Yteokhkoaieibmaa
