/- What one call of Right does, the program's and the document's; of Small. -/
import Derived.Test.YtkhldjpghjmgfaaSSh
namespace Go.Proofs.Ytkhldjpghjmgfaa
open Go.RowKit
set_option linter.unusedVariables false
set_option maxRecDepth 4000

theorem and_power : ∀ n : Fin 4097, 64 ≤ n.val → (decide (bits BinOp.and IntKind.i64 (n.val : Int) ((n.val : Int) - 1) = 0) = decide ((n.val : Int) ∈ Powers)) := by decide +kernel
theorem and_of {b : Int} (h1 : 64 ≤ b) (h2 : b ≤ 4096) : bits BinOp.and IntKind.i64 b (b - 1) = 0 ↔ b ∈ Powers := by
  have := and_power ⟨b.toNat, by omega⟩ (by show 64 ≤ b.toNat; omega)
  have e : ((b.toNat : Nat) : Int) = b := by omega
  simp only [e] at this
  exact decide_eq_decide.1 this

set_option maxHeartbeats 2000000 in
theorem right_of (s : Sh) (w : World) (hz : -9223372036854775808 ≤ s.z) :
    Calls Try.prog 25 #[.agg (shL s).toArray] w fun e w' => e = .returned (.bool (decide (RightS s))) ∧ Below w.heap.size w w' := by
  obtain ⟨z, zb, b, r⟩ := s
  obtain ⟨B, hB⟩ : ∃ B, B = decide (RightS ⟨z, zb, b, r⟩) := ⟨_, rfl⟩
  rw [← hB]
  have HB : Hid (B = decide (RightS ⟨z, zb, b, r⟩)) := hB
  clear hB
  have bw : Hid (∀ o, Below w.heap.size w (w.alloc o)) := fun o => (Below.refl _ _).alloc (Nat.le_refl _) o
  by_cases h1 : (decide (6 ≤ z) && decide (z ≤ 256)) = true
  · by_cases h2 : (decide (8 ≤ zb) && decide (zb ≤ 4096)) = true
    · by_cases h3 : (decide (64 ≤ b) && decide (b ≤ 4096)) = true
      · simp only [Bool.and_eq_true, decide_eq_true_eq] at h1 h2 h3
        obtain ⟨z1, z2⟩ := h1
        obtain ⟨y1, y2⟩ := h2
        obtain ⟨x1, x2⟩ := h3
        have hw : IntKind.i64.wrap (b - 1) = b - 1 := by rw [IntKind.wrap_i64]; omega
        have hw4 : IntKind.i64.wrap (z - 4) = z - 4 := by rw [IntKind.wrap_i64]; omega
        by_cases hp : b ∈ Powers
        · have hand := (and_of x1 x2).2 hp
          have hf : B = (decide (2 ≤ r) && decide (r ≤ z - 4)) := by
            rw [HB.out]; simp [RightS, z1, z2, y1, y2, hp]
          clear HB
          subst hf
          clear hp
          simp only [shL]
          go_enter Try.func25, Try.ntmps25
          go_wp2_with (go_at_call 36; refine (within_of _ _ _ _).mono ?_; rintro e w' ⟨rfl, rfl⟩)
          go_ret
          exact ⟨rfl, bw.out _⟩
        · have hand : ¬ bits BinOp.and IntKind.i64 b (b - 1) = 0 := fun h => hp ((and_of x1 x2).1 h)
          have hf : B = false := by
            rw [HB.out]; simp [RightS, hp]
          clear HB
          subst hf
          clear hp
          simp only [shL]
          go_enter Try.func25, Try.ntmps25
          go_wp2_with (go_at_call 36; refine (within_of _ _ _ _).mono ?_; rintro e w' ⟨rfl, rfl⟩)
          go_ret
          exact ⟨rfl, bw.out _⟩
      · have h3' : (decide (64 ≤ b) && decide (b ≤ 4096)) = false := by simpa using h3
        have hf : B = false := by
          rw [HB.out]; refine decide_eq_false ?_; rintro ⟨_, _, _, _, h, _⟩; have := power_bounds h; simp at h3; simp only at this; omega
        clear h3 HB
        subst hf
        simp only [shL]
        go_enter Try.func25, Try.ntmps25
        go_wp2_with (go_at_call 36; refine (within_of _ _ _ _).mono ?_; rintro e w' ⟨rfl, rfl⟩)
        go_ret
        exact ⟨rfl, bw.out _⟩
    · have h2' : (decide (8 ≤ zb) && decide (zb ≤ 4096)) = false := by simpa using h2
      have hf : B = false := by
        rw [HB.out]; refine decide_eq_false ?_; rintro ⟨_, _, a1, a2, _⟩; simp only at a1 a2; simp at h2; omega
      clear h2 HB
      subst hf
      simp only [shL]
      go_enter Try.func25, Try.ntmps25
      go_wp2_with (go_at_call 36; refine (within_of _ _ _ _).mono ?_; rintro e w' ⟨rfl, rfl⟩)
      go_ret
      exact ⟨rfl, bw.out _⟩
  · have h1' : (decide (6 ≤ z) && decide (z ≤ 256)) = false := by simpa using h1
    have hf : B = false := by
      rw [HB.out]; refine decide_eq_false ?_; rintro ⟨a1, a2, _⟩; simp only at a1 a2; simp at h1; omega
    clear h1 HB
    subst hf
    simp only [shL]
    go_enter Try.func25, Try.ntmps25
    go_wp2_with (go_at_call 36; refine (within_of _ _ _ _).mono ?_; rintro e w' ⟨rfl, rfl⟩)
    go_ret
    exact ⟨rfl, bw.out _⟩
end Go.Proofs.Ytkhldjpghjmgfaa
