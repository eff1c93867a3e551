/- What one call of spell's small functions does: signCount, signOf, valueOf, bitsAt. -/
import Derived.Test.YtpliokkmiijieaaDoorSpMath
namespace Go.Proofs.YtpliokkmiijieaaDoor
open Go.RowKit
set_option linter.unusedVariables false
set_option maxRecDepth 4000

theorem signCount_of (n : Nat) (w : World) (hn : n ≤ 1000000) : Calls Tryd.prog 43 #[.int .i64 n] w fun e w' => e = .returned (.int .i64 (scN n : Nat)) ∧ w' = w := by
  go_enter Tryd.func43, Tryd.ntmps43
  go_wp2
  go_ret
  exact ⟨by unfold scN; go_num, rfl⟩
theorem signOf_of (v : Int) (w : World) (h0 : 0 ≤ v) (h1 : v < 32) : Calls Tryd.prog 44 #[.int .u8 v] w fun e w' => e = .returned (.int .u8 (signI v)) ∧ w' = w := by
  by_cases h : v < 26
  · have e : signI v = 97 + v := by unfold signI; rw [if_pos h]
    rw [e]
    go_enter Tryd.func44, Tryd.ntmps44
    go_wp2
    go_ret
    exact ⟨by go_num, rfl⟩
  · have e : signI v = 24 + v := by unfold signI; rw [if_neg h]
    rw [e]
    go_enter Tryd.func44, Tryd.ntmps44
    go_wp2
    go_ret
    exact ⟨by go_num, rfl⟩
theorem valueOf_good (c : Int) (w : World) (hc : Fits8 c) (h : IsSign c) : Calls Tryd.prog 58 #[.int .u8 c] w fun e w' => e = .returned (.tuple #[.int .u8 (valI c), .bool true]) ∧ w' = w := by
  unfold Fits8 at hc
  unfold IsSign at h
  by_cases h' : 97 ≤ c
  · have e : valI c = c - 97 := by unfold valI; rw [if_pos h']
    rw [e]
    have h2 : c ≤ 122 := by omega
    go_enter Tryd.func58, Tryd.ntmps58
    go_wp2
    go_ret2
    exact ⟨by go_num, rfl⟩
  · have e : valI c = c - 24 := by unfold valI; rw [if_neg h']
    rw [e]
    have h2 : 50 ≤ c ∧ c ≤ 55 := by omega
    obtain ⟨h2, h3⟩ := h2
    go_enter Tryd.func58, Tryd.ntmps58
    go_wp2
    go_ret2
    exact ⟨by go_num, rfl⟩
theorem valueOf_bad (c : Int) (w : World) (hc : Fits8 c) (h : ¬ IsSign c) : Calls Tryd.prog 58 #[.int .u8 c] w fun e w' => e = .returned (.tuple #[.int .u8 0, .bool false]) ∧ w' = w := by
  unfold Fits8 at hc
  unfold IsSign at h
  by_cases h1 : 97 ≤ c
  · have h2 : ¬ c ≤ 122 := by omega
    have h3 : 50 ≤ c := by omega
    have h4 : ¬ c ≤ 55 := by omega
    clear h
    go_enter Tryd.func58, Tryd.ntmps58
    go_wp2
    go_ret2
    exact ⟨rfl, rfl⟩
  · by_cases h3 : 50 ≤ c
    · have h4 : ¬ c ≤ 55 := by omega
      clear h
      go_enter Tryd.func58, Tryd.ntmps58
      go_wp2
      go_ret2
      exact ⟨rfl, rfl⟩
    · clear h
      go_enter Tryd.func58, Tryd.ntmps58
      go_wp2
      go_ret2
      exact ⟨rfl, rfl⟩
end Go.Proofs.YtpliokkmiijieaaDoor
