/- A heap's root sinks. -/
import Derived.Test.YtkhldjpghjmgfaaSoB
namespace Go.Proofs.Ytkhldjpghjmgfaa
open Go.RowKit Go.Sort
set_option linter.unusedVariables false
set_option maxRecDepth 4000

theorem sift_stop {lt : Int → Int → Bool} {hi first r : Nat} {d : Array Int} (h : 2 * r + 1 ≥ hi) : siftDown lt hi first r d = d := by rw [siftDown, dif_pos h]
theorem sift_step {lt : Int → Int → Bool} {hi first r : Nat} {d : Array Int} (h : 2 * r + 1 < hi) :
    (2 * r + 1 + 1 < hi → lt d[first + (2 * r + 1)]! d[first + (2 * r + 1) + 1]! = true → (lt d[first + r]! d[first + (2 * r + 1) + 1]! = true → siftDown lt hi first r d = siftDown lt hi first (2 * r + 1 + 1) (swp d (first + r) (first + (2 * r + 1) + 1))) ∧ (lt d[first + r]! d[first + (2 * r + 1) + 1]! = false → siftDown lt hi first r d = d)) ∧
    ((¬ 2 * r + 1 + 1 < hi ∨ lt d[first + (2 * r + 1)]! d[first + (2 * r + 1) + 1]! = false) → (lt d[first + r]! d[first + (2 * r + 1)]! = true → siftDown lt hi first r d = siftDown lt hi first (2 * r + 1) (swp d (first + r) (first + (2 * r + 1)))) ∧ (lt d[first + r]! d[first + (2 * r + 1)]! = false → siftDown lt hi first r d = d)) := by
  have e2 : first + (2 * r + 2) = first + (2 * r + 1) + 1 := by omega
  refine ⟨fun h1 h2 => ⟨fun h3 => ?_, fun h3 => ?_⟩, fun h1 => ⟨fun h3 => ?_, fun h3 => ?_⟩⟩
  · conv => lhs; rw [siftDown]
    rw [dif_neg (by omega), if_pos (by simp [h1, h2]), e2, if_neg (by simp [h3]), dif_pos (by omega)]
  · rw [siftDown, dif_neg (by omega), if_pos (by simp [h1, h2]), e2, if_pos (by simp [h3])]
  · conv => lhs; rw [siftDown]
    rw [dif_neg (by omega), if_neg (by rcases h1 with h1 | h1 <;> simp [h1]), if_neg (by simp [h3])]
  · rw [siftDown, dif_neg (by omega), if_neg (by rcases h1 with h1 | h1 <;> simp [h1]), if_pos (by simp [h3])]
set_option maxHeartbeats 2000000 in
theorem sift_of (W : World) (B g n cap lo hi first : Nat) (d : Array Int) (w : World) (h : SR W w B g n cap d) (hb : first + hi ≤ n) (hlo : lo ≤ hi) (hn : n ≤ 1000) :
    Calls Try.prog 55 #[.slice (some ⟨g, 0, none⟩) n cap, .int .i64 lo, .int .i64 hi, .int .i64 first] w fun e w' => e = .returned (.tuple #[]) ∧ SR W w' B g n cap (siftDown ltInt hi first lo d) := by
  have H : Hid (SR W w B g n cap d) := h
  clear h
  go_enter Try.func55, Try.ntmps55
  go_wp2
  go_loopw [8] (fun vr wr => ∃ (r : Nat) (dk : Array Int), vr = .int .i64 r ∧ r ≤ hi ∧ siftDown ltInt hi first r dk = siftDown ltInt hi first lo d ∧ SR W wr B g n cap dk) (fun vr _ => hi - (intOf vr).toNat)
  case atStart => exact ⟨lo, d, rfl, hlo, rfl, H.out⟩
  case round =>
    obtain ⟨r, dk, rfl, hr, hD, hS⟩ := hrel
    by_cases hlt : 2 * r + 1 < hi
    · obtain ⟨c0, hc0⟩ : ∃ c0, c0 = 2 * r := ⟨_, rfl⟩
      obtain ⟨c, hc⟩ : ∃ c, c = c0 + 1 := ⟨_, rfl⟩
      have k1 : IntKind.i64.wrap (2 * (r : Int)) = c0 := by rw [IntKind.wrap_i64]; omega
      have k2 : IntKind.i64.wrap ((c0 : Int) + 1) = c := by rw [IntKind.wrap_i64]; omega
      have hlt' : (c : Int) < hi := by omega
      have HS : Hid (SR W wr B g n cap dk ∧ siftDown ltInt hi first r dk = siftDown ltInt hi first lo d ∧ c0 = 2 * r ∧ c = c0 + 1 ∧ 2 * r + 1 < hi ∧ r ≤ hi) := ⟨hS, hD, hc0, hc, hlt, hr⟩
      clear hS hD hc0 hc hlt hr
      --TAIL
      obtain ⟨e, he⟩ : ∃ e, e = c + 1 := ⟨_, rfl⟩
      obtain ⟨p, hp⟩ : ∃ p, p = first + c := ⟨_, rfl⟩
      obtain ⟨q, hq⟩ : ∃ q, q = p + 1 := ⟨_, rfl⟩
      obtain ⟨s, hs⟩ : ∃ s, s = first + r := ⟨_, rfl⟩
      have HE : Hid (e = c + 1 ∧ p = first + c ∧ q = p + 1 ∧ s = first + r) := ⟨he, hp, hq, hs⟩
      have k3 : IntKind.i64.wrap ((c : Int) + 1) = e := by have := HS.out; rw [IntKind.wrap_i64]; omega
      have k4 : IntKind.i64.wrap ((first : Int) + c) = p := by have := HS.out; rw [IntKind.wrap_i64]; omega
      have k5 : IntKind.i64.wrap ((p : Int) + 1) = q := by have := HS.out; rw [IntKind.wrap_i64]; omega
      have k6 : IntKind.i64.wrap ((first : Int) + r) = s := by have := HS.out; rw [IntKind.wrap_i64]; omega
      have k7 : IntKind.i64.wrap ((first : Int) + e) = q := by have := HS.out; rw [IntKind.wrap_i64]; omega
      have b0p : (0 : Int) ≤ p := by omega
      have b1p : (p : Int) < n := by have := HS.out; omega
      have b0s : (0 : Int) ≤ s := by omega
      have b1s : (s : Int) < n := by have := HS.out; omega
      have w0 := HS.out.1.cell (i := s) (by omega)
      have wp := HS.out.1.cell (i := p) (by omega)
      obtain ⟨x0, hx0⟩ : ∃ x, dk[s]! = x := ⟨_, rfl⟩
      obtain ⟨x, hx⟩ : ∃ x, dk[p]! = x := ⟨_, rfl⟩
      obtain ⟨y, hy⟩ : ∃ x, dk[q]! = x := ⟨_, rfl⟩
      rw [hx0] at w0
      rw [hx] at wp
      have hX : Hid (dk[s]! = x0 ∧ dk[p]! = x ∧ dk[q]! = y) := ⟨hx0, hx, hy⟩
      have HM := fun (hlt : 2 * r + 1 < hi) => sift_step (lt := ltInt) (hi := hi) (first := first) (r := r) (d := dk) hlt
      have HSt : Hid ((e < hi → ltInt x y = true → (ltInt x0 y = true → siftDown ltInt hi first r dk = siftDown ltInt hi first e (swp dk s q)) ∧ (ltInt x0 y = false → siftDown ltInt hi first r dk = dk)) ∧ ((¬ e < hi ∨ ltInt x y = false) → (ltInt x0 x = true → siftDown ltInt hi first r dk = siftDown ltInt hi first c (swp dk s p)) ∧ (ltInt x0 x = false → siftDown ltInt hi first r dk = dk))) := by
        have h1 := sift_step (lt := ltInt) (hi := hi) (first := first) (r := r) (d := dk) HS.out.2.2.2.2.1
        have ec : c = 2 * r + 1 := by have := HS.out; omega
        rw [← hx0, ← hx, ← hy, he, hq, hp, hs, ec]
        exact h1
      clear HM hx0 hx hy
      by_cases hlt : e < hi
      · have hlt2 : (e : Int) < hi := by omega
        have b0q : (0 : Int) ≤ q := by omega
        have b1q : (q : Int) < n := by have := HS.out; omega
        have wq := HS.out.1.cell (i := q) (by omega)
        rw [hX.out.2.2] at wq
        have hd : decide ((e : Int) < hi) = true := decide_eq_true hlt2
        have hL := less_of x y
        have zS : wr.cell? ⟨g, p, none⟩ = some (.int .u32 x) ∧ wr.cell? ⟨g, q, none⟩ = some (.int .u32 y) := ⟨wp, wq⟩
        clear he hp hq hs
        by_cases hl1 : ltInt x y = true
        · rw [hl1] at hL
          have hst := HSt.out.1 hlt hl1
          have HST : Hid _ := hst
          clear hst
          go_upto_region 3 with fail
          go_region_held3 (fun X => X.cell? ⟨g, p, none⟩ = some (.int .u32 x) ∧ X.cell? ⟨g, q, none⟩ = some (.int .u32 y)) (exact zS)
            ((go_simp; go_at_call 50; refine (hL _).mono ?_; rintro e w11 ⟨rfl, hw11⟩; replace hw11 := hw11.symm; subst hw11))
          have hL2 := less_of x0 y
          have zS2 : wr.cell? ⟨g, s, none⟩ = some (.int .u32 x0) ∧ wr.cell? ⟨g, q, none⟩ = some (.int .u32 y) := ⟨w0, wq⟩
          by_cases hl2 : ltInt x0 y = true
          · rw [hl2] at hL2
            obtain ⟨⟨q0, q1, q2, q3⟩, q4, q5, q6⟩ := HS.out.1.swf (i := s) (j := q) (by omega) (by omega) hX.out.1 hX.out.2.2
            have HN : Hid (SR W ((wr.setCell ⟨g, s, none⟩ (.int .u32 y)).setCell ⟨g, q, none⟩ (.int .u32 x0)) B g n cap (swp dk s q) ∧ siftDown ltInt hi first e (swp dk s q) = siftDown ltInt hi first lo d) := ⟨q6, by
              rw [← HS.out.2.1]
              exact (HST.out.1 hl2).symm⟩
            have q4' : ∀ j : Nat, ((wr.drewN j).setCell ⟨g, s, none⟩ (.int .u32 y)).cell? ⟨g, q, none⟩ = some (.int .u32 y) := fun j => q4
            have q5' : ∀ j : Nat, ((wr.drewN j).setCell ⟨g, s, none⟩ (.int .u32 y)).frozen? ⟨g, q, none⟩ = false := fun j => q5
            clear q6
            go_wp2_with fail
            go_region_held3 (fun X => X.cell? ⟨g, s, none⟩ = some (.int .u32 x0) ∧ X.cell? ⟨g, q, none⟩ = some (.int .u32 y)) (exact zS2)
              ((go_simp; go_at_call 50; refine (hL2 _).mono ?_; rintro e w11 ⟨rfl, hw11⟩; replace hw11 := hw11.symm; subst hw11))
            go_wp2_with fail
            go_region
            all_goals go_wp2
            all_goals (
              go_roundw
              case rel => exact ⟨e, _, rfl, by have := HS.out; have := HE.out; omega, HN.out.2, HN.out.1.same rfl rfl rfl rfl⟩
              case measure => simp [intOf]; have := HS.out; have := HE.out; omega)
          · have hl3 : ltInt x0 y = false := by simpa using hl2
            rw [hl3] at hL2
            have HN : Hid (siftDown ltInt hi first lo d = dk) := by
              show _ = _
              rw [← HS.out.2.1]
              exact HST.out.2 hl3
            go_wp2_with fail
            go_region_held3 (fun X => X.cell? ⟨g, s, none⟩ = some (.int .u32 x0) ∧ X.cell? ⟨g, q, none⟩ = some (.int .u32 y)) (exact zS2)
              ((go_simp; go_at_call 50; refine (hL2 _).mono ?_; rintro e w11 ⟨rfl, hw11⟩; replace hw11 := hw11.symm; subst hw11))
            all_goals go_wp2
            all_goals (
              first | go_end0 | refine bodyPost_ret (results_none rfl _ _ _) rfl ?_
              exact ⟨rfl, by rw [HN.out]; exact HS.out.1.same rfl rfl rfl rfl⟩)
        · have hl1' : ltInt x y = false := by simpa using hl1
          rw [hl1'] at hL
          have hst := HSt.out.2 (.inr hl1')
          have HST : Hid _ := hst
          clear hst
          go_upto_region 3 with fail
          go_region_held3 (fun X => X.cell? ⟨g, p, none⟩ = some (.int .u32 x) ∧ X.cell? ⟨g, q, none⟩ = some (.int .u32 y)) (exact zS)
            ((go_simp; go_at_call 50; refine (hL _).mono ?_; rintro e w11 ⟨rfl, hw11⟩; replace hw11 := hw11.symm; subst hw11))
          have hL2 := less_of x0 x
          have zS2 : wr.cell? ⟨g, s, none⟩ = some (.int .u32 x0) ∧ wr.cell? ⟨g, p, none⟩ = some (.int .u32 x) := ⟨w0, wp⟩
          by_cases hl2 : ltInt x0 x = true
          · rw [hl2] at hL2
            obtain ⟨⟨q0, q1, q2, q3⟩, q4, q5, q6⟩ := HS.out.1.swf (i := s) (j := p) (by omega) (by omega) hX.out.1 hX.out.2.1
            have HN : Hid (SR W ((wr.setCell ⟨g, s, none⟩ (.int .u32 x)).setCell ⟨g, p, none⟩ (.int .u32 x0)) B g n cap (swp dk s p) ∧ siftDown ltInt hi first c (swp dk s p) = siftDown ltInt hi first lo d) := ⟨q6, by
              rw [← HS.out.2.1]
              exact (HST.out.1 hl2).symm⟩
            have q4' : ∀ j : Nat, ((wr.drewN j).setCell ⟨g, s, none⟩ (.int .u32 x)).cell? ⟨g, p, none⟩ = some (.int .u32 x) := fun j => q4
            have q5' : ∀ j : Nat, ((wr.drewN j).setCell ⟨g, s, none⟩ (.int .u32 x)).frozen? ⟨g, p, none⟩ = false := fun j => q5
            clear q6
            go_wp2_with fail
            go_region_held3 (fun X => X.cell? ⟨g, s, none⟩ = some (.int .u32 x0) ∧ X.cell? ⟨g, p, none⟩ = some (.int .u32 x)) (exact zS2)
              ((go_simp; go_at_call 50; refine (hL2 _).mono ?_; rintro e w11 ⟨rfl, hw11⟩; replace hw11 := hw11.symm; subst hw11))
            go_wp2_with fail
            go_region
            all_goals go_wp2
            all_goals (
              go_roundw
              case rel => exact ⟨c, _, rfl, by have := HS.out; have := HE.out; omega, HN.out.2, HN.out.1.same rfl rfl rfl rfl⟩
              case measure => simp [intOf]; have := HS.out; have := HE.out; omega)
          · have hl3 : ltInt x0 x = false := by simpa using hl2
            rw [hl3] at hL2
            have HN : Hid (siftDown ltInt hi first lo d = dk) := by
              show _ = _
              rw [← HS.out.2.1]
              exact HST.out.2 hl3
            go_wp2_with fail
            go_region_held3 (fun X => X.cell? ⟨g, s, none⟩ = some (.int .u32 x0) ∧ X.cell? ⟨g, p, none⟩ = some (.int .u32 x)) (exact zS2)
              ((go_simp; go_at_call 50; refine (hL2 _).mono ?_; rintro e w11 ⟨rfl, hw11⟩; replace hw11 := hw11.symm; subst hw11))
            all_goals go_wp2
            all_goals (
              first | go_end0 | refine bodyPost_ret (results_none rfl _ _ _) rfl ?_
              exact ⟨rfl, by rw [HN.out]; exact HS.out.1.same rfl rfl rfl rfl⟩)
      · have hlt2 : ¬ ((e : Int) < hi) := by omega
        have hd : decide ((e : Int) < hi) = false := decide_eq_false hlt2
        have hst := HSt.out.2 (.inl hlt)
        have HST : Hid _ := hst
        clear hst he hp hq hs
        go_upto_region 3 with fail
        go_quiet (fail)
        have hL2 := less_of x0 x
        have zS2 : wr.cell? ⟨g, s, none⟩ = some (.int .u32 x0) ∧ wr.cell? ⟨g, p, none⟩ = some (.int .u32 x) := ⟨w0, wp⟩
        by_cases hl2 : ltInt x0 x = true
        · rw [hl2] at hL2
          obtain ⟨⟨q0, q1, q2, q3⟩, q4, q5, q6⟩ := HS.out.1.swf (i := s) (j := p) (by omega) (by omega) hX.out.1 hX.out.2.1
          have HN : Hid (SR W ((wr.setCell ⟨g, s, none⟩ (.int .u32 x)).setCell ⟨g, p, none⟩ (.int .u32 x0)) B g n cap (swp dk s p) ∧ siftDown ltInt hi first c (swp dk s p) = siftDown ltInt hi first lo d) := ⟨q6, by
            rw [← HS.out.2.1]
            exact (HST.out.1 hl2).symm⟩
          have q4' : ∀ j : Nat, ((wr.drewN j).setCell ⟨g, s, none⟩ (.int .u32 x)).cell? ⟨g, p, none⟩ = some (.int .u32 x) := fun j => q4
          have q5' : ∀ j : Nat, ((wr.drewN j).setCell ⟨g, s, none⟩ (.int .u32 x)).frozen? ⟨g, p, none⟩ = false := fun j => q5
          clear q6
          go_wp2_with fail
          go_region_held3 (fun X => X.cell? ⟨g, s, none⟩ = some (.int .u32 x0) ∧ X.cell? ⟨g, p, none⟩ = some (.int .u32 x)) (exact zS2)
            ((go_simp; go_at_call 50; refine (hL2 _).mono ?_; rintro e w11 ⟨rfl, hw11⟩; replace hw11 := hw11.symm; subst hw11))
          go_wp2_with fail
          go_region
          all_goals go_wp2
          all_goals (
            go_roundw
            case rel => exact ⟨c, _, rfl, by have := HS.out; have := HE.out; omega, HN.out.2, HN.out.1.same rfl rfl rfl rfl⟩
            case measure => simp [intOf]; have := HS.out; have := HE.out; omega)
        · have hl3 : ltInt x0 x = false := by simpa using hl2
          rw [hl3] at hL2
          have HN : Hid (siftDown ltInt hi first lo d = dk) := by
            show _ = _
            rw [← HS.out.2.1]
            exact HST.out.2 hl3
          go_wp2_with fail
          go_region_held3 (fun X => X.cell? ⟨g, s, none⟩ = some (.int .u32 x0) ∧ X.cell? ⟨g, p, none⟩ = some (.int .u32 x)) (exact zS2)
            ((go_simp; go_at_call 50; refine (hL2 _).mono ?_; rintro e w11 ⟨rfl, hw11⟩; replace hw11 := hw11.symm; subst hw11))
          all_goals go_wp2
          all_goals (
            first | go_end0 | refine bodyPost_ret (results_none rfl _ _ _) rfl ?_
            exact ⟨rfl, by rw [HN.out]; exact HS.out.1.same rfl rfl rfl rfl⟩)
    · have hlt2 : ¬ (((2 * r + 1 : Nat) : Int) < hi) := by omega
      have hge : (hi : Int) ≤ 2 * (r : Int) + 1 := by omega
      have HN : Hid (SR W wr B g n cap (siftDown ltInt hi first lo d)) := by rw [← hD, sift_stop (by omega)]; exact hS
      clear hD hS hlt
      go_wp2
      first | go_end0 | refine bodyPost_ret (results_none rfl _ _ _) rfl ?_
      exact ⟨rfl, HN.out⟩
end Go.Proofs.Ytkhldjpghjmgfaa
