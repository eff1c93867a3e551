/- What one call of slices.EqualFunc with bytes.Equal does. -/
import Derived.Test.YteokhkoaieibmaaCkBase
import Derived.Test.YteokhkoaieibmaaZRead
namespace Go.Proofs.Yteokhkoaieibmaa
open Go.RowKit Go.Shelf
set_option linter.unusedVariables false
set_option maxRecDepth 4000

theorem BsIn.at {W : World} {a : Option Addr} {n : Nat} {bs : List (List Int)} (h : BsIn W a n bs) {i : Nat} {D : List Int} (hi : bs[i]? = some D) : ∃ b off A L C, a = some ⟨b, off, none⟩ ∧ W.cell? ⟨b, off + i, none⟩ = some (.slice A L C) ∧ BIn W A L D ∧ (A = none → L = 0 ∧ C = 0) ∧ L ≤ C ∧ L ≤ 100000 := by
  obtain ⟨b, off, ha, hc⟩ := h.2.2.resolve_left (by have := (List.getElem?_eq_some_iff.1 hi).1; have := h.1; omega)
  obtain ⟨v, h1, A, L, C, rfl, h2, h3, h4, h5⟩ := hc i D hi
  exact ⟨b, off, A, L, C, ha, h1, h2, h3, h4, h5⟩
theorem take_eq_next {l l' : List (List Int)} {i : Nat} {D : List Int} (h : l.take i = l'.take i) (h1 : l[i]? = some D) (h2 : l'[i]? = some D) : l.take (i + 1) = l'.take (i + 1) := by
  rw [List.take_add_one, List.take_add_one, h, h1, h2]
set_option maxHeartbeats 2000000 in
theorem keq_of (a : Option Addr) (n c : Nat) (l : List (List Int)) (b : Option Addr) (m d : Nat) (l' : List (List Int)) (w : World) (hx : BsIn w a n l) (hy : BsIn w b m l') :
    Calls Try.prog 43 #[.slice a n c, .slice b m d, .func (.func 44) #[] #[]] w fun e w' => e = .returned (.bool (decide (l = l'))) ∧ w' = w := by
  obtain ⟨B, hB⟩ : ∃ B, B = decide (l = l') := ⟨_, rfl⟩
  rw [← hB]
  have H : Hid (BsIn w a n l ∧ BsIn w b m l' ∧ B = decide (l = l')) := ⟨hx, hy, hB⟩
  have hn := hx.2.1
  have hm := hy.2.1
  clear hx hy hB
  by_cases hnm : n = m
  · subst hnm
    go_enter Try.func43, Try.ntmps43
    go_wp2
    go_loopw [17] (fun x wr => ∃ i : Nat, x = .int .i64 i ∧ i ≤ n ∧ wr = w ∧ l.take i = l'.take i) (fun x _ => n - (intOf x).toNat)
    case atStart => exact ⟨0, rfl, Nat.zero_le _, rfl, by simp⟩
    case round =>
      obtain ⟨i, rfl, hi, rfl, hti⟩ := hrel
      rcases Nat.lt_or_ge i n with hlt | hge
      · obtain ⟨D, hD⟩ : ∃ D, l[i]? = some D := ⟨l[i]'(by have := H.out.1.1; omega), by simp⟩
        obtain ⟨D', hD'⟩ : ∃ D', l'[i]? = some D' := ⟨l'[i]'(by have := H.out.2.1.1; omega), by simp⟩
        obtain ⟨b1, o1, A1, L1, C1, rfl, k1, k2, _⟩ := H.out.1.at hD
        obtain ⟨b2, o2, A2, L2, C2, rfl, j1, j2, _⟩ := H.out.2.1.at hD'
        have hi' : (i : Int) < n := by omega
        have hwi : IntKind.i64.wrap ((i : Int) + 1) = (i : Int) + 1 := by rw [IntKind.wrap_i64]; omega
        have hE := equal_of A1 L1 C1 D A2 L2 C2 D' wr k2 j2
        have HD : Hid (l[i]? = some D ∧ l'[i]? = some D' ∧ l.take i = l'.take i) := ⟨hD, hD', hti⟩
        by_cases hDD : D = D'
        · rw [decide_eq_true hDD] at hE
          have HE : Hid (Calls Try.prog 44 #[.slice A1 L1 C1, .slice A2 L2 C2] wr fun e w' => e = .returned (.bool true) ∧ w' = wr) := hE
          have HT : Hid (l.take (i + 1) = l'.take (i + 1)) := take_eq_next hti hD (by rw [hDD]; exact hD')
          clear hE hDD hD hD' hti k2 j2
          go_wp2_with (go_at_call 44; refine HE.out.mono ?_; rintro e wz ⟨rfl, hw⟩; replace hw := hw.symm; subst hw)
          go_roundw
          case rel => exact ⟨i + 1, by simp, by omega, by first | rfl | trivial, HT.out⟩
          case measure => simp [intOf]; omega
        · rw [decide_eq_false hDD] at hE
          have HE : Hid (Calls Try.prog 44 #[.slice A1 L1 C1, .slice A2 L2 C2] wr fun e w' => e = .returned (.bool false) ∧ w' = wr) := hE
          have HF : Hid (B = false) := by
            show B = false
            rw [H.out.2.2]
            refine decide_eq_false (fun e => hDD ?_)
            rw [e, hD'] at hD
            exact (Option.some.inj hD).symm
          clear hE hDD hD hD' hti k2 j2
          go_wp2_with (go_at_call 44; refine HE.out.mono ?_; rintro e wz ⟨rfl, hw⟩; replace hw := hw.symm; subst hw)
          go_ret
          exact ⟨by rw [HF.out]; rfl, rfl⟩
      · obtain rfl : i = n := by omega
        have HT : Hid (B = true) := by
          show B = true
          rw [H.out.2.2]
          refine decide_eq_true ?_
          rw [List.take_of_length_le (by rw [H.out.1.1]; exact Nat.le_refl _), List.take_of_length_le (by rw [H.out.2.1.1]; exact Nat.le_refl _)] at hti
          exact hti
        clear hti
        go_wp2
        go_ret
        exact ⟨by rw [HT.out]; rfl, rfl⟩
  · have h1 : ¬ (n : Int) = m := by omega
    have HF : Hid (B = false) := by
      show B = false
      rw [H.out.2.2]
      refine decide_eq_false (fun e => hnm ?_)
      rw [← H.out.1.1, ← H.out.2.1.1, e]
    go_enter Try.func43, Try.ntmps43
    go_wp2
    go_ret
    exact ⟨by rw [HF.out]; rfl, rfl⟩
end Go.Proofs.Yteokhkoaieibmaa
