/- choosePivot: some place, some hint. -/
import Derived.Test.YtkhldjpghjmgfaaSoPiv
namespace Go.Proofs.Ytkhldjpghjmgfaa
open Go.RowKit Go.Sort
set_option linter.unusedVariables false
set_option maxRecDepth 4000

set_option maxHeartbeats 2000000 in
theorem pivot_of (W : World) (B g n cap a b : Nat) (d : Array Int) (w : World) (h : SR W w B g n cap d) (hab : a + 12 < b) (hb : b ≤ n) (hn : n ≤ 1000) :
    Calls Try.prog 47 #[.slice (some ⟨g, 0, none⟩) n cap, .int .i64 a, .int .i64 b] w fun e w' => ∃ (p : Nat) (hint : Int), e = .returned (.tuple #[.int .i64 p, .int .i64 hint]) ∧ a ≤ p ∧ p < b ∧ (hint = 0 ∨ hint = 1 ∨ hint = 2) ∧ SR W w' B g n cap d := by
  obtain ⟨l, hl⟩ : ∃ l, l = b - a := ⟨_, rfl⟩
  have k1 : IntKind.i64.wrap ((b : Int) - a) = l := by rw [IntKind.wrap_i64]; omega
  have k2 : (0 : Int) ≤ l := by omega
  have k3 : (l : Int) ≤ 1000 := by omega
  have k4 : (8 : Int) ≤ l := by omega
  obtain ⟨i, hi⟩ : ∃ i, i = a + l / 4 := ⟨_, rfl⟩
  obtain ⟨j, hj⟩ : ∃ j, j = a + l / 4 * 2 := ⟨_, rfl⟩
  obtain ⟨k, hk⟩ : ∃ k, k = a + l / 4 * 3 := ⟨_, rfl⟩
  have e1 : (a : Int) + (l : Int) / 4 = i := by omega
  have e2 : (a : Int) + (l : Int) / 4 * 2 = j := by omega
  have e3 : (a : Int) + (l : Int) / 4 * 3 = k := by omega
  have HS : Hid (SR W w B g n cap d ∧ (l = b - a ∧ i = a + l / 4 ∧ j = a + l / 4 * 2 ∧ k = a + l / 4 * 3)) := ⟨h, hl, hi, hj, hk⟩
  have HQ : Hid (SQ W (w.alloc (.cells #[.int .i64 0] 3)) B g n cap w.heap.size d 0) := ⟨h.alloc _, Blk.new' rfl rfl, h.out.size, by omega⟩
  clear h hl hi hj hk
  by_cases h50 : (50 : Int) ≤ l
  · have cA := medAdj_of W B g n cap w.heap.size i d 0 _ HQ.out (by have := HS.out.2; omega) (by have := HS.out.2; omega) hn (by omega)
    go_enter Try.func47, Try.ntmps47
    go_wp2_with (go_at_call 58; refine cA.mono ?_; clear cA; rintro e w1 ⟨x1, s1, rfl, h1, l1, q1⟩)
    have cA := medAdj_of W B g n cap w.heap.size j d s1 _ q1 (by have := HS.out.2; omega) (by have := HS.out.2; omega) hn (by omega)
    go_wp2_with (go_at_call 58; refine cA.mono ?_; clear cA; rintro e w2 ⟨x2, s2, rfl, h2, l2, q2⟩)
    have cA := medAdj_of W B g n cap w.heap.size k d s2 _ q2 (by have := HS.out.2; omega) (by have := HS.out.2; omega) hn (by omega)
    go_wp2_with (go_at_call 58; refine cA.mono ?_; clear cA; rintro e w3 ⟨x3, s3, rfl, h3, l3, q3⟩)
    have cA := median_of W B g n cap w.heap.size x1 x2 x3 d s3 _ q3 (by have := HS.out.2; omega) (by have := HS.out.2; omega) (by have := HS.out.2; omega) hn (by omega)
    go_upto_region 12 with (go_at_call 59; refine cA.mono ?_; clear cA; rintro e w4 ⟨x4, s4, rfl, h4, l4, q4⟩)
    have z0 : w4.cell? ⟨w.heap.size, 0, none⟩ = some (.int .i64 s4) := q4.bk.cell 0
    have HR : Hid (a ≤ x4 ∧ x4 < b ∧ SR W w4 B g n cap d) := ⟨by have := HS.out.2; omega, by have := HS.out.2; omega, q4.sr⟩
    by_cases c0 : s4 = 0
    · subst c0
      go_wp2
      go_ret2
      exact ⟨x4, 1, rfl, HR.out.1, HR.out.2.1, .inr (.inl rfl), HR.out.2.2⟩
    · by_cases c1 : s4 = 12
      · subst c1
        go_wp2
        go_ret2
        exact ⟨x4, 2, rfl, HR.out.1, HR.out.2.1, .inr (.inr rfl), HR.out.2.2⟩
      · go_wp2
        go_ret2
        exact ⟨x4, 0, rfl, HR.out.1, HR.out.2.1, .inl rfl, HR.out.2.2⟩
  · have cA := median_of W B g n cap w.heap.size i j k d 0 _ HQ.out (by have := HS.out.2; omega) (by have := HS.out.2; omega) (by have := HS.out.2; omega) hn (by omega)
    go_enter Try.func47, Try.ntmps47
    go_upto_region 12 with (go_at_call 59; refine cA.mono ?_; clear cA; rintro e w4 ⟨x4, s4, rfl, h4, l4, q4⟩)
    have z0 : w4.cell? ⟨w.heap.size, 0, none⟩ = some (.int .i64 s4) := q4.bk.cell 0
    have HR : Hid (a ≤ x4 ∧ x4 < b ∧ SR W w4 B g n cap d) := ⟨by have := HS.out.2; omega, by have := HS.out.2; omega, q4.sr⟩
    by_cases c0 : s4 = 0
    · subst c0
      go_wp2
      go_ret2
      exact ⟨x4, 1, rfl, HR.out.1, HR.out.2.1, .inr (.inl rfl), HR.out.2.2⟩
    · by_cases c1 : s4 = 12
      · subst c1
        go_wp2
        go_ret2
        exact ⟨x4, 2, rfl, HR.out.1, HR.out.2.1, .inr (.inr rfl), HR.out.2.2⟩
      · go_wp2
        go_ret2
        exact ⟨x4, 0, rfl, HR.out.1, HR.out.2.1, .inl rfl, HR.out.2.2⟩
end Go.Proofs.Ytkhldjpghjmgfaa
