/- What one call of halve, of Next and of the document's own Next does: it hands back the plain function's number and touches nothing. -/
import Derived.Test.YteokhkoaieibmaaProg
import Derived.Test.YteokhkoaieibmaaCMath
import Derived.WalkKit
import Derived.WalkSpells
import Derived.WalkLawsBesides
namespace Go.Proofs.Yteokhkoaieibmaa
open Go.RowKit
set_option linter.unusedVariables false
set_option maxRecDepth 4000

theorem crH_odd {c : Int} (h : (bits .and .u32 c 1 == 1) = true) : crH c = bits .xor .u32 (c / 2) 3988292384 := if_pos h
theorem crH_even {c : Int} (h : (bits .and .u32 c 1 == 1) = false) : crH c = c / 2 := if_neg (by rw [h]; decide)
theorem and_one {c : Int} (h0 : 0 ≤ c) (h1 : c < 4294967296) : bits .and .u32 c 1 = c % 2 := by
  have := u32_and c 1 h0 h1 (by omega) (by omega)
  rw [this, show (1 : Int).toNat = 1 from rfl, nat_mask1]
  omega
theorem crH_odd' {c : Int} (h0 : 0 ≤ c) (h1 : c < 4294967296) (h : (c % 2 == 1) = true) : crH c = bits .xor .u32 (c / 2) 3988292384 := crH_odd (by rw [and_one h0 h1]; exact h)
theorem crH_even' {c : Int} (h0 : 0 ≤ c) (h1 : c < 4294967296) (h : (c % 2 == 1) = false) : crH c = c / 2 := crH_even (by rw [and_one h0 h1]; exact h)
theorem val_u32 {a b : Int} (h : a = b) : Value.int .u32 a = .int .u32 b := by rw [h]
theorem ret_u32 {a b : Int} (h : a = b) : Ending.returned (.int .u32 a) = .returned (.int .u32 b) := by rw [h]

set_option maxHeartbeats 400000 in
theorem crcHalve_of (c : Int) (w : World) (h0 : 0 ≤ c) (h1 : c < 4294967296) :
    Calls Try.prog 92 #[.int .u32 c] w fun e w' => e = .returned (.int .u32 (crH c)) ∧ w' = w := by
  go_enter Try.func92, Try.ntmps92
  go_wp2
  · go_ret
    exact ⟨ret_u32 (crH_odd ‹_›).symm, rfl⟩
  · go_ret
    exact ⟨ret_u32 (crH_even ‹_›).symm, rfl⟩

set_option maxHeartbeats 400000 in
theorem crcNext_of (s b : Int) (w : World) (hs : Fits32 s) (hb : Fits8 b) :
    Calls Try.prog 89 #[.int .u32 s, .int .u8 b] w fun e w' => e = .returned (.int .u32 (crN s b)) ∧ w' = w := by
  have H : Hid (Fits32 (crS s b)) := crS_fits hs hb
  obtain ⟨h0, h1⟩ := hs
  obtain ⟨h2, h3⟩ := hb
  go_enter Try.func89, Try.ntmps89
  go_wp2
  go_loop [5, 11] (fun c i => ∃ k : Nat, k ≤ 8 ∧ i = .int .i64 k ∧ c = .int .u32 (crIter k (crS s b))) (fun _ i => 8 - (intOf i).toNat)
  case atStart => exact ⟨0, by omega, rfl, rfl⟩
  case round =>
    obtain ⟨k, hk, rfl, rfl⟩ := hrel
    have hf := crIter_fits k H.out
    obtain ⟨hf0, hf1⟩ := hf
    by_cases hlt : k < 8
    · go_wp2_with (go_at_call 92; refine (crcHalve_of _ _ hf0 hf1).mono ?_; rintro e w' ⟨rfl, rfl⟩)
      go_round
      case rel => exact ⟨k + 1, by omega, by go_num, rfl⟩
      case measure => simp [intOf]; omega
    · have : k = 8 := by omega
      subst this
      go_wp2
      go_ret
      exact ⟨rfl, rfl⟩

set_option maxHeartbeats 400000 in
theorem dCrcNext_of (s b : Int) (w : World) (hs : Fits32 s) (hb : Fits8 b) :
    Calls Try.prog 70 #[.int .u32 s, .int .u8 b] w fun e w' => e = .returned (.int .u32 (crN s b)) ∧ w' = w := by
  have H : Hid (Fits32 (crS s b)) := crS_fits hs hb
  obtain ⟨h0, h1⟩ := hs
  obtain ⟨h2, h3⟩ := hb
  go_enter Try.func70, Try.ntmps70
  go_wp2
  go_loop [5, 6] (fun c i => ∃ k : Nat, k ≤ 8 ∧ i = .int .i64 k ∧ c = .int .u32 (crIter k (crS s b))) (fun _ i => 8 - (intOf i).toNat)
  case atStart => exact ⟨0, by omega, rfl, rfl⟩
  case round =>
    obtain ⟨k, hk, rfl, rfl⟩ := hrel
    have hf := crIter_fits k H.out
    obtain ⟨hf0, hf1⟩ := hf
    by_cases hlt : k < 8
    · go_wp2
      · go_round
        case rel => exact ⟨k + 1, by omega, by go_num, val_u32 (crH_odd' hf0 hf1 ‹_›).symm⟩
        case measure => simp [intOf]; omega
      · go_round
        case rel => exact ⟨k + 1, by omega, by go_num, val_u32 (crH_even' hf0 hf1 ‹_›).symm⟩
        case measure => simp [intOf]; omega
    · have : k = 8 := by omega
      subst this
      go_wp2
      go_ret
      exact ⟨rfl, rfl⟩
end Go.Proofs.Yteokhkoaieibmaa
