/- What one call of the function that kept tells does. -/
import Derived.Test.YteokhkoaieibmaaZSmall
namespace Go.Proofs.Yteokhkoaieibmaa
open Go.RowKit
set_option linter.unusedVariables false
set_option maxRecDepth 4000

theorem out_cell (w : World) (g i : Nat) (v : Value) : Out (fun j => j = g) w (w.setCell ⟨g, i, none⟩ v) := (Out.refl (fun j => j = g) w).setCell (p := ⟨g, i, none⟩) (.inl rfl) v
/-- How much fits, and what is left of the loss. -/
def keptN (k t : Int) (n : Nat) : Nat := if 0 < k then n else min t.toNat n
def keptK (k t : Int) : Int × Int := if 0 < k then (k - 1, t) else (k, 0)

theorem kept1_of (k t : Int) (g : Nat) (a : Option Addr) (n c : Nat) (w : World) (hb : Blk w g [.int .i64 k, .int .i64 t] 112) (hk : k < 9223372036854775808) :
    Calls Try.prog 88 #[.slice a n c, .pointer (some ⟨g, 0, none⟩)] w fun e w' => e = .returned (.int .i64 (keptN k t n)) ∧ Blk w' g [.int .i64 (keptK k t).1, .int .i64 (keptK k t).2] 112 ∧ Out (fun j => j = g) w w' ∧ w'.heap.size = w.heap.size := by
  have c0 : w.cell? ⟨g, 0, none⟩ = some (.int .i64 k) := hb.cell 0
  have c1 : w.cell? ⟨g, 1, none⟩ = some (.int .i64 t) := hb.cell 1
  have z0 := hb.frozen 0
  have z1 := hb.frozen 1
  have HB : Hid (Blk w g [.int .i64 k, .int .i64 t] 112) := hb
  clear hb
  by_cases h : 0 < k
  · have e1 : keptN k t n = n := by simp [keptN, h]
    have e2 : keptK k t = (k - 1, t) := by simp [keptK, h]
    have hw : IntKind.i64.wrap (k - 1) = k - 1 := by rw [IntKind.wrap_i64]; omega
    rw [e1, e2]
    clear hk
    go_enter Try.func88, Try.ntmps88
    go_wp2
    go_ret
    exact ⟨rfl, HB.out.set 0 _, out_cell _ _ _ _, by simp [World.setCell]⟩
  · have e2 : keptK k t = (k, 0) := by simp [keptK, h]
    rw [e2]
    clear hk
    have fin : ∀ v, v = Value.int .i64 (keptN k t n) → ∀ w', w' = w.setCell ⟨g, 1, none⟩ (.int .i64 0) → (Ending.returned v = .returned (.int .i64 (keptN k t n)) ∧ Blk w' g [.int .i64 k, .int .i64 0] 112 ∧ Out (fun j => j = g) w w' ∧ w'.heap.size = w.heap.size) := by
      intro v hv w' hw'
      subst hv; subst hw'
      exact ⟨rfl, HB.out.set 1 _, out_cell _ _ _ _, by simp [World.setCell]⟩
    have HF : Hid (∀ v, v = Value.int .i64 (keptN k t n) → ∀ w', w' = w.setCell ⟨g, 1, none⟩ (.int .i64 0) → (Ending.returned v = .returned (.int .i64 (keptN k t n)) ∧ Blk w' g [.int .i64 k, .int .i64 0] 112 ∧ Out (fun j => j = g) w w' ∧ w'.heap.size = w.heap.size)) := fin
    have HN : Hid (keptN k t n = min t.toNat n) := show _ = _ by simp [keptN, h]
    clear fin e2
    have h' : k ≤ 0 := by omega
    generalize keptN k t n = N at HF HN ⊢
    rcases Int.lt_trichotomy t 0 with ht | rfl | ht
    · rcases Nat.eq_zero_or_pos n with rfl | hn
      · go_enter Try.func88, Try.ntmps88
        go_wp2
        go_ret
        exact HF.out _ (by rw [HN.out]; simp) _ rfl
      · have hn' : (0 : Int) < n := by omega
        go_enter Try.func88, Try.ntmps88
        go_wp2
        go_ret
        exact HF.out _ (by rw [HN.out]; have : t.toNat = 0 := by omega
                           rw [this]; simp) _ rfl
    · rcases Nat.eq_zero_or_pos n with rfl | hn
      · go_enter Try.func88, Try.ntmps88
        go_wp2
        go_ret
        exact HF.out _ (by rw [HN.out]; simp) _ rfl
      · have hn' : (0 : Int) < n := by omega
        go_enter Try.func88, Try.ntmps88
        go_wp2
        go_ret
        exact HF.out _ (by rw [HN.out]; simp) _ rfl
    · rcases Int.lt_trichotomy t n with hn | hn | hn
      · go_enter Try.func88, Try.ntmps88
        go_wp2
        go_ret
        exact HF.out _ (by rw [HN.out]; have : ((min t.toNat n : Nat) : Int) = t := by omega
                           rw [this]; rfl) _ rfl
      · have HT : Hid (t = n) := hn
        subst hn
        go_enter Try.func88, Try.ntmps88
        go_wp2
        go_ret
        exact HF.out _ (by rw [HN.out]; simp) _ rfl
      · go_enter Try.func88, Try.ntmps88
        go_wp2
        go_ret
        exact HF.out _ (by rw [HN.out]; have : ((min t.toNat n : Nat) : Int) = n := by omega
                           rw [this]; rfl) _ rfl
end Go.Proofs.Yteokhkoaieibmaa
