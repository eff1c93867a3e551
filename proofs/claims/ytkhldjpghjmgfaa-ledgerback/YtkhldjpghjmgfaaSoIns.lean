/- The sort by insertion. -/
import Derived.Test.YtkhldjpghjmgfaaSoB
namespace Go.Proofs.Ytkhldjpghjmgfaa
open Go.RowKit Go.Sort
set_option linter.unusedVariables false
set_option maxRecDepth 4000

theorem insInner_stop {lt : Int → Int → Bool} {a j : Nat} {d : Array Int} (h : ¬ (a < j) ∨ lt d[j]! d[j - 1]! = false) : insInner lt a j d = d := by
  cases j with
  | zero => rfl
  | succ j =>
    unfold insInner
    rw [if_neg]
    rcases h with h | h
    · simp; omega
    · simp only [Nat.add_sub_cancel] at h
      simp [h]
theorem insInner_go {lt : Int → Int → Bool} {a j : Nat} {d : Array Int} (h : a < j) (hl : lt d[j]! d[j - 1]! = true) : insInner lt a j d = insInner lt a (j - 1) (swp d j (j - 1)) := by
  cases j with
  | zero => omega
  | succ j =>
    rw [insInner, if_pos]
    · rfl
    · simp only [Nat.add_sub_cancel] at hl
      simp [hl]; omega
theorem insOuter_stop {lt : Int → Int → Bool} {a b i : Nat} {d : Array Int} (h : ¬ (i < b)) : insOuter lt a b i d = d := by rw [insOuter, if_neg h]
theorem insOuter_go {lt : Int → Int → Bool} {a b i : Nat} {d : Array Int} (h : i < b) : insOuter lt a b i d = insOuter lt a b (i + 1) (insInner lt a i d) := by rw [insOuter, if_pos h]
set_option maxHeartbeats 1000000 in
theorem ins_of (W : World) (B g n cap a b : Nat) (d : Array Int) (w : World) (h : SR W w B g n cap d) (hab : a ≤ b) (hb : b ≤ n) (hn : n ≤ 1000) :
    Calls Try.prog 44 #[.slice (some ⟨g, 0, none⟩) n cap, .int .i64 a, .int .i64 b] w fun e w' => e = .returned (.tuple #[]) ∧ SR W w' B g n cap (insertionSort ltInt d a b) := by
  have H : Hid (SR W w B g n cap d) := h
  clear h
  go_enter Try.func44, Try.ntmps44
  go_wp2
  go_loopw [6] (fun vi wr => ∃ (i : Nat) (dk : Array Int), vi = .int .i64 i ∧ a < i ∧ i ≤ b + 1 ∧ insOuter ltInt a b i dk = insertionSort ltInt d a b ∧ SR W wr B g n cap dk) (fun vi _ => b + 1 - (intOf vi).toNat)
  case atStart => exact ⟨a + 1, d, by go_num, by omega, by omega, rfl, H.out⟩
  case round =>
    obtain ⟨i, dk, rfl, hai, hib, hO, hS⟩ := hrel
    by_cases hlt : i < b
    · have hlt' : (i : Int) < b := by omega
      have HO : Hid (insOuter ltInt a b (i + 1) (insInner ltInt a i dk) = insertionSort ltInt d a b ∧ SR W wr B g n cap dk) := ⟨by rw [← hO, insOuter_go hlt], hS⟩
      clear hO hS
      obtain ⟨V0, rfl⟩ : ∃ V0, V0 = wr := ⟨_, rfl⟩
      go_wp2
      go_loopw [7] (fun vj wx => ∃ (j : Nat) (dj : Array Int), vj = .int .i64 j ∧ a ≤ j ∧ j ≤ i ∧ insInner ltInt a j dj = insInner ltInt a i dk ∧ SR W wx B g n cap dj) (fun vj _ => (intOf vj).toNat)
      case atStart => exact ⟨i, dk, rfl, by omega, Nat.le_refl _, rfl, HO.out.2⟩
      case round =>
        obtain ⟨j, dj, rfl, haj, hji, hI, hS⟩ := hrel
        by_cases hj : a < j
        · obtain ⟨m, hm⟩ : ∃ m, j = m + 1 := ⟨j - 1, by omega⟩
          have hj' : (a : Int) < j := by omega
          have b0 : (0 : Int) ≤ j := by omega
          have b1 : (j : Int) < n := by omega
          have b2 : (0 : Int) ≤ m := by omega
          have b3 : (m : Int) < n := by omega
          have hw : IntKind.i64.wrap ((j : Int) - 1) = m := by rw [IntKind.wrap_i64]; omega
          have c0 := hS.cell (i := j) (by omega)
          have c1 := hS.cell (i := m) (by omega)
          have z0 := hS.frozen j
          have z1 := hS.frozen m
          have hL := less_of dj[j]! dj[m]!
          have HS : Hid (SR W wr B g n cap dj ∧ insInner ltInt a j dj = insInner ltInt a i dk ∧ j = m + 1 ∧ a < j ∧ j ≤ i ∧ i < b ∧ b ≤ n ∧ m < j) := ⟨hS, hI, hm, hj, hji, hlt, hb, by omega⟩
          clear hS hI hm
          generalize hx : dj[j]! = x at c0 hL
          generalize hy : dj[m]! = y at c1 hL
          have HX : Hid (dj[j]! = x ∧ dj[m]! = y) := ⟨hx, hy⟩
          clear hx hy
          have zS : wr.cell? ⟨g, j, none⟩ = some (.int .u32 x) ∧ wr.cell? ⟨g, m, none⟩ = some (.int .u32 y) := ⟨c0, c1⟩
          by_cases hlt2 : ltInt x y = true
          · rw [hlt2] at hL
            go_wp2_with fail
            go_region_held3 (fun X => X.cell? ⟨g, j, none⟩ = some (.int .u32 x) ∧ X.cell? ⟨g, m, none⟩ = some (.int .u32 y)) (exact zS)
              ((go_simp; go_at_call 50; refine (hL _).mono ?_; rintro e w11 ⟨rfl, hw11⟩; replace hw11 := hw11.symm; subst hw11))
            obtain ⟨⟨q0, q1, q2, q3⟩, q4, q5, q6⟩ := HS.out.1.swf (i := j) (j := m) (by omega) (by omega) HX.out.1 HX.out.2
            have HN : Hid (SR W ((wr.setCell ⟨g, j, none⟩ (.int .u32 y)).setCell ⟨g, m, none⟩ (.int .u32 x)).drew.drew B g n cap (swp dj j m) ∧ insInner ltInt a m (swp dj j m) = insInner ltInt a i dk) := by
              refine ⟨q6.drew.drew, ?_⟩
              have e2 : j - 1 = m := by have := HS.out.2.2.1; omega
              rw [← HS.out.2.1, insInner_go (j := j) HS.out.2.2.2.1 (by rw [e2, HX.out.1, HX.out.2]; exact hlt2), e2]
            clear q6
            go_wp2_with fail
            go_region
            all_goals go_wp2
            all_goals (
              go_roundw
              case rel => exact ⟨m, _, by go_num, by have := HS.out; omega, by have := HS.out; omega, HN.out.2, HN.out.1⟩
              case measure => simp [intOf]; have := HS.out; omega)
          · have hlt3 : ltInt x y = false := by simpa using hlt2
            rw [hlt3] at hL
            have HN : Hid (insInner ltInt a i dk = dj ∧ SR W wr.drew B g n cap dj) := by
              refine ⟨?_, HS.out.1.drew⟩
              have e2 : j - 1 = m := by have := HS.out.2.2.1; omega
              rw [← HS.out.2.1, insInner_stop (.inr (by rw [e2, HX.out.1, HX.out.2]; exact hlt3))]
            go_wp2_with fail
            go_region_held3 (fun X => X.cell? ⟨g, j, none⟩ = some (.int .u32 x) ∧ X.cell? ⟨g, m, none⟩ = some (.int .u32 y)) (exact zS)
              ((go_simp; go_at_call 50; refine (hL _).mono ?_; rintro e w11 ⟨rfl, hw11⟩; replace hw11 := hw11.symm; subst hw11))
            all_goals go_wp2
            all_goals (
              go_roundw
              case rel => exact ⟨i + 1, dj, by go_num, by omega, by omega, by rw [← HN.out.1]; exact HO.out.1, HN.out.2⟩
              case measure => simp [intOf]; omega)
        · have hj' : ¬ ((a : Int) < j) := by omega
          have hd : decide ((a : Int) < j) = false := decide_eq_false hj'
          have HN : Hid (insInner ltInt a i dk = dj ∧ ∀ q, SR W (wr.drewN q) B g n cap dj) := ⟨by rw [← hI, insInner_stop (.inl hj)], fun q => hS.drewN q⟩
          clear hI hS
          go_wp2_with fail
          go_quiet (fail)
          all_goals go_wp2
          all_goals (
            go_roundw
            case rel => exact ⟨i + 1, dj, by go_num, by omega, by omega, by rw [← HN.out.1]; exact HO.out.1, by first | exact HN.out.2 1 | exact HN.out.2 _⟩
            case measure => simp [intOf]; omega)
    · have hlt' : ¬ ((i : Int) < b) := by omega
      rw [insOuter_stop hlt] at hO
      have HN : Hid (SR W wr B g n cap (insertionSort ltInt d a b)) := by rw [← hO]; exact hS
      clear hO hS
      go_wp2
      first | go_end0 | refine bodyPost_ret (results_none rfl _ _ _) rfl ?_
      exact ⟨rfl, HN.out⟩
end Go.Proofs.Ytkhldjpghjmgfaa
