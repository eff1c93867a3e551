/- What one call of greet's front does; its Flags, and the document's. -/
import Derived.Test.YtkegpgmmlmineaaGMath
namespace Go.Proofs.Ytkegpgmmlmineaa
open Go.RowKit
set_option linter.unusedVariables false
set_option maxRecDepth 4000

set_option maxHeartbeats 1000000 in
theorem front_of (a : Option Addr) (n c : Nat) (xs : List Int) (b : Option Addr) (m d : Nat) (ws : List Int) (w : World) (hx : BIn w a n xs) (hnil : a = none → n = 0 ∧ c = 0) (hnc : n ≤ c) (hy : NIn .i64 w b m ws) (hsane : Sane ws) (hn : n ≤ 100000) (hm : m ≤ 1000) :
    Calls Try.prog 28 #[.slice a n c, .slice b m d] w fun e w' => ∃ A k C, e = .returned (.tuple #[.slice A k C, .bool (decide (offL ws ≤ xs.length))]) ∧ w'.ownsRow w.heap.size 45 1 (.slice A k C) k (kInts .u64 (takeV xs ws)) ∧ Below w.heap.size w w' := by
  have H : Hid (BIn w a n xs ∧ NIn .i64 w b m ws ∧ (a = none → n = 0 ∧ c = 0) ∧ n ≤ c ∧ Sane ws) := ⟨hx, hy, hnil, hnc, hsane⟩
  clear hx hy hnil hnc hsane
  go_enter Try.func28, Try.ntmps28
  go_wp2
  go_loopw [6, 14] (fun s i wr => ∃ j : Nat, j ≤ m ∧ i = .int .i64 j ∧ s = .int .i64 (offL (ws.take j) : Nat) ∧ wr = w)
    (fun _ i _ => m - (intOf i).toNat)
  case atStart => exact ⟨0, by omega, rfl, rfl, rfl⟩
  case round =>
    obtain ⟨j, hj, rfl, rfl, rfl⟩ := hrel
    obtain ⟨o, ho⟩ : ∃ o, o = offL (ws.take j) := ⟨_, rfl⟩
    have hob : o ≤ 8000 := by
      have := offL_le (ws.take j)
      rw [List.length_take] at this
      omega
    rw [← ho]
    have HO : Hid (o = offL (ws.take j)) := ho
    clear ho
    by_cases hlt : j < m
    · have hlt' : (j : Int) < m := by omega
      obtain ⟨b1, o1, rfl, hc1⟩ := H.out.2.1.2.2.2.resolve_left (by omega)
      have cw := hc1 j (by omega)
      have hjl : j < ws.length := by rw [H.out.2.1.1]; exact hlt
      have hs := sane_at H.out.2.2.2.2 hjl
      have h8 := wd_le (ws.getD j 0)
      have HN : Hid (ws.take (j + 1) = ws.take j ++ [ws.getD j 0]) := take_next ws hjl
      obtain ⟨X, eX⟩ : ∃ X, X = ws.getD j 0 := ⟨_, rfl⟩
      rw [← eX] at cw hs h8 HN
      have HX : Hid ((wd X : Int) = X) := hs
      have hx0 : 0 ≤ X := by omega
      have hx8 : X ≤ 8 := by omega
      clear hc1 eX hs h8 hjl
      go_wp2
      go_roundw
      case rel =>
        refine ⟨j + 1, by omega, by go_num, ?_, trivial⟩
        rw [HN.out, offL_snoc, ← HO.out]
        have := HX.out
        go_num
      case measure => simp [intOf]; omega
    · have hge : (m : Int) ≤ j := by omega
      have hjm : j = m := by omega
      have eT : ws.take j = ws := List.take_of_length_le (by rw [H.out.2.1.1]; omega)
      rw [eT] at HO
      clear hjm eT
      obtain ⟨M, hM⟩ : ∃ M : Nat, M = min o n := ⟨_, rfl⟩
      have hM' : (if n < o then (n : Int) else o) = M := by rw [hM]; split <;> omega
      have hMc : M ≤ c := by have := H.out.2.2.2.1; omega
      have hsl := fun w => slice_front Try.underlying22 Try.one_bytes a n c M hMc w
      have hMn : M ≤ n := by omega
      have eX : xs.take M = xs.take (offL ws) := by
        rw [← HO.out]
        by_cases h : o ≤ n
        · rw [hM, Nat.min_eq_left h]
        · rw [hM, Nat.min_eq_right (by omega), List.take_of_length_le (by rw [H.out.1.1]; exact Nat.le_refl _), List.take_of_length_le (by rw [H.out.1.1]; omega)]
      have HM : Hid (xs.take M = xs.take (offL ws) ∧ M ≤ n ∧ M ≤ c) := ⟨eX, hMn, hMc⟩
      clear hM eX
      go_wp2_with fail
      refine (take_of a M c (xs.take M) b m d ws wr ((H.out.1.n.front M HM.out.2.1).b) (fun e => by have := H.out.2.2.1 e; have := HM.out; omega) HM.out.2.2 H.out.2.1 (by omega) (by omega)).mono ?_
      rw [HM.out.1, takeV_take, decide_eq_decide.2 (Iff.of_eq (front_enough xs ws))]
      rintro e w2 ⟨A, k, C, R, r, D, rfl, ow, -, bl⟩
      have HE : Hid (w2.ownsRow wr.heap.size 45 1 (.slice A k C) k (kInts .u64 (takeV xs ws)) ∧ Below wr.heap.size wr w2) := ⟨ow, bl⟩
      clear ow bl
      go_wp2
      go_ret2
      exact ⟨A, k, C, rfl, HE.out.1, HE.out.2⟩

/-- The first number of those that were taken. -/
theorem own_at {w : World} {base k C : Nat} {A : Option Addr} {L : List Int} (h : w.ownsRow base 45 1 (.slice A k C) k (kInts .u64 L)) (h0 : L ≠ []) : ∃ g, A = some ⟨g, 0, none⟩ ∧ k = L.length ∧ ∀ i, i < L.length → w.cell? ⟨g, i, none⟩ = some (.int .u64 (L.getD i 0)) := by
  have hl : L.length = k := by have := h.1; simp [kInts] at this; omega
  have hp : 0 < L.length := List.length_pos_iff.2 h0
  rcases h.2 with ⟨hv, hn⟩ | ⟨g, cap, cur, hv, hb, hg, hc, hcm, hsz, htake⟩
  · omega
  · cases hv
    refine ⟨g, rfl, hl.symm, fun i hi => ?_⟩
    have hcl := h.cells (g := g) rfl i (.int .u64 (L.getD i 0)) (by simp [kInts, List.getD, hi])
    rw [Addr.add_mid, Nat.zero_add] at hcl
    exact hcl
theorem nin_lit (t : TypeId) {w : World} {g n : Nat} {L : List Int} {C : Array Value} {fr : Nat × Nat} (hk : w.heap.size = g) (hC : C = (kInts .i64 L).toArray) (hn : L.length = n) (hf : (L.all fun z => (Lit.int .i64 z).wf) = true) (hm : n ≤ 1000) :
    NIn .i64 (w.alloc (.cells C t fr)) (some ⟨g, 0, none⟩) n L := new_nin hk hC hn (all_wf hf) (by unfold maxLen; omega)
theorem sane4 : Sane [4] := by intro x hx; simp only [List.mem_cons, List.not_mem_nil, or_false] at hx; subst hx; rfl
theorem sane844 : Sane [8, 4, 4] := by intro x hx; simp only [List.mem_cons, List.not_mem_nil, or_false] at hx; rcases hx with rfl | rfl | rfl <;> rfl
theorem off4 : offL [4] = 4 := rfl
theorem off844 : offL [8, 4, 4] = 16 := rfl
theorem below_new {w w1 : World} {o : Obj} (h : Below (w.alloc o).heap.size (w.alloc o) w1) : Below w.heap.size w w1 :=
  ((Below.refl _ _).alloc (Nat.le_refl _) o).trans (h.mono (by simp))

theorem flags_few {xs : List Int} (h : xs.length < 4) : flagsB xs = false ∧ flagsC xs = 0 ∧ flagsE xs = 70 := by
  have hE : flagsE xs = 70 := by unfold flagsE; rw [if_pos h]
  exact ⟨decide_eq_false (by omega), by unfold flagsC; rw [hE, if_neg (by decide)], hE⟩
theorem flags_good {xs : List Int} (h : ¬ xs.length < 4) (k : fN xs = 1 ∨ fN xs = 3) : flagsB xs = decide (fN xs = 3) ∧ flagsC xs = 4 ∧ flagsE xs = 0 := by
  have hE : flagsE xs = 0 := by unfold flagsE; rw [if_neg h, if_pos k]
  exact ⟨decide_eq_decide.2 ⟨fun h => h.2, fun e => ⟨by omega, e⟩⟩, by unfold flagsC; rw [hE, if_pos rfl], hE⟩
theorem flags_bad {xs : List Int} (h : ¬ xs.length < 4) (k : ¬ (fN xs = 1 ∨ fN xs = 3)) : flagsB xs = false ∧ flagsC xs = 0 ∧ flagsE xs = 72 := by
  have hE : flagsE xs = 72 := by unfold flagsE; rw [if_neg h, if_neg k]
  exact ⟨decide_eq_false (fun e => k (.inr e.2)), by unfold flagsC; rw [hE, if_neg (by decide)], hE⟩

set_option maxHeartbeats 1000000 in
theorem flags_of (a : Option Addr) (n c : Nat) (xs : List Int) (w : World) (hx : BIn w a n xs) (hnil : a = none → n = 0 ∧ c = 0) (hnc : n ≤ c) (hn : n ≤ 100000) :
    Calls Try.prog 10 #[.slice a n c] w fun e w' => e = .returned (.tuple #[.bool (flagsB xs), .int .i64 (flagsC xs), .int .u16 (flagsE xs)]) ∧ Below w.heap.size w w' := by
  obtain ⟨B, hB⟩ : ∃ B, B = flagsB xs := ⟨_, rfl⟩
  obtain ⟨K, hK⟩ : ∃ K, K = flagsC xs := ⟨_, rfl⟩
  obtain ⟨E, hE⟩ : ∃ E, E = flagsE xs := ⟨_, rfl⟩
  rw [← hB, ← hK, ← hE]
  have HF : Hid (B = flagsB xs ∧ K = flagsC xs ∧ E = flagsE xs) := ⟨hB, hK, hE⟩
  have H : Hid (BIn w a n xs ∧ (a = none → n = 0 ∧ c = 0) ∧ n ≤ c) := ⟨hx, hnil, hnc⟩
  clear hx hnil hnc hB hK hE
  go_enter Try.func10, Try.ntmps10
  go_wp2_with fail
  refine (front_of a n c xs (some ⟨w.heap.size, 0, none⟩) 1 1 [4] _ (H.out.1.alloc _) H.out.2.1 H.out.2.2 (nin_lit 3 rfl rfl rfl rfl (by omega)) sane4 hn (by omega)).mono ?_
  rw [off4, H.out.1.1]
  rintro e w1 ⟨A, k, D, rfl, ow, bl⟩
  have HB : Hid (Below w.heap.size w w1) := below_new bl
  clear bl
  by_cases h4 : 4 ≤ n
  · rw [decide_eq_true h4]
    rw [take4 xs (by rw [H.out.1.1]; exact h4)] at ow
    obtain ⟨g, rfl, hk, hc⟩ := own_at ow (by simp)
    have c0 : w1.cell? ⟨g, 0, none⟩ = some (.int .u64 (fN xs)) := hc 0 (by simp)
    have hk1 : k = 1 := by simpa using hk
    subst hk1
    have hl4 : ¬ xs.length < 4 := by rw [H.out.1.1]; omega
    have f1 := flags_good hl4
    have f2 := flags_bad hl4
    obtain ⟨N, eN⟩ : ∃ N, N = fN xs := ⟨_, rfl⟩
    rw [← eN] at c0 f1 f2
    have HG : Hid (((N = 1 ∨ N = 3) → flagsB xs = decide (N = 3) ∧ flagsC xs = 4 ∧ flagsE xs = 0) ∧ (¬ (N = 1 ∨ N = 3) → flagsB xs = false ∧ flagsC xs = 0 ∧ flagsE xs = 72)) := ⟨f1, f2⟩
    clear ow hc hk eN hl4 h4 f1 f2
    by_cases e1 : N = 1
    · obtain ⟨r1, r2, r3⟩ := HG.out.1 (.inl e1)
      have HR : Hid (B = decide (N = 3) ∧ K = 4 ∧ E = 0) := ⟨HF.out.1.trans r1, HF.out.2.1.trans r2, HF.out.2.2.trans r3⟩
      clear r1 r2 r3
      subst e1
      go_wp2
      go_ret3
      rw [HR.out.1, HR.out.2.1, HR.out.2.2]
      exact ⟨rfl, HB.out⟩
    by_cases e3 : N = 3
    · obtain ⟨r1, r2, r3⟩ := HG.out.1 (.inr e3)
      have HR : Hid (B = decide (N = 3) ∧ K = 4 ∧ E = 0) := ⟨HF.out.1.trans r1, HF.out.2.1.trans r2, HF.out.2.2.trans r3⟩
      clear r1 r2 r3
      subst e3
      go_wp2
      go_ret3
      rw [HR.out.1, HR.out.2.1, HR.out.2.2]
      exact ⟨rfl, HB.out⟩
    obtain ⟨r1, r2, r3⟩ := HG.out.2 (by omega)
    have HR : Hid (B = false ∧ K = 0 ∧ E = 72) := ⟨HF.out.1.trans r1, HF.out.2.1.trans r2, HF.out.2.2.trans r3⟩
    have b1 : (N == 1) = false := by simp [e1]
    have b3 : (N == 3) = false := by simp [e3]
    have m1 : (N != 1) = true := by simp [e1]
    have m3 : (N != 3) = true := by simp [e3]
    clear r1 r2 r3
    go_wp2
    go_ret3
    rw [HR.out.1, HR.out.2.1, HR.out.2.2]
    exact ⟨rfl, HB.out⟩
  · rw [decide_eq_false h4]
    obtain ⟨r1, r2, r3⟩ := flags_few (xs := xs) (by rw [H.out.1.1]; omega)
    have HR : Hid (B = false ∧ K = 0 ∧ E = 70) := ⟨HF.out.1.trans r1, HF.out.2.1.trans r2, HF.out.2.2.trans r3⟩
    clear ow h4 r1 r2 r3
    go_wp2
    go_ret3
    rw [HR.out.1, HR.out.2.1, HR.out.2.2]
    exact ⟨rfl, HB.out⟩

set_option maxHeartbeats 1000000 in
theorem refFlags_of (a : Option Addr) (n c : Nat) (xs : List Int) (w : World) (hx : BIn w a n xs) (hnil : a = none → n = 0 ∧ c = 0) (hnc : n ≤ c) (hn : n ≤ 100000) :
    Calls Try.prog 11 #[.slice a n c] w fun e w' => e = .returned (.tuple #[.bool (flagsB xs), .int .i64 (flagsC xs), .int .i64 (flagsE xs)]) ∧ Below w.heap.size w w' := by
  obtain ⟨B, hB⟩ : ∃ B, B = flagsB xs := ⟨_, rfl⟩
  obtain ⟨K, hK⟩ : ∃ K, K = flagsC xs := ⟨_, rfl⟩
  obtain ⟨E, hE⟩ : ∃ E, E = flagsE xs := ⟨_, rfl⟩
  rw [← hB, ← hK, ← hE]
  have HF : Hid (B = flagsB xs ∧ K = flagsC xs ∧ E = flagsE xs) := ⟨hB, hK, hE⟩
  have H : Hid (BIn w a n xs ∧ (a = none → n = 0 ∧ c = 0) ∧ n ≤ c) := ⟨hx, hnil, hnc⟩
  clear hx hnil hnc hB hK hE
  go_enter Try.func11, Try.ntmps11
  go_wp2_with fail
  refine (refTake_of a n c xs (some ⟨w.heap.size, 0, none⟩) 1 1 [4] _ (H.out.1.alloc _) H.out.2.1 H.out.2.2 (nin_lit 3 rfl rfl rfl rfl (by omega)) hn (by omega)).mono ?_
  rw [off4, H.out.1.1]
  rintro e w1 ⟨A, k, D, R, r, F, rfl, ow, -, bl⟩
  have HB : Hid (Below w.heap.size w w1) := below_new bl
  clear bl
  by_cases h4 : 4 ≤ n
  · rw [decide_eq_true h4]
    rw [take4 xs (by rw [H.out.1.1]; exact h4)] at ow
    obtain ⟨g, rfl, hk, hc⟩ := own_at ow (by simp)
    have c0 : w1.cell? ⟨g, 0, none⟩ = some (.int .u64 (fN xs)) := hc 0 (by simp)
    have hk1 : k = 1 := by simpa using hk
    subst hk1
    have hl4 : ¬ xs.length < 4 := by rw [H.out.1.1]; omega
    have f1 := flags_good hl4
    have f2 := flags_bad hl4
    obtain ⟨N, eN⟩ : ∃ N, N = fN xs := ⟨_, rfl⟩
    rw [← eN] at c0 f1 f2
    have HG : Hid (((N = 1 ∨ N = 3) → flagsB xs = decide (N = 3) ∧ flagsC xs = 4 ∧ flagsE xs = 0) ∧ (¬ (N = 1 ∨ N = 3) → flagsB xs = false ∧ flagsC xs = 0 ∧ flagsE xs = 72)) := ⟨f1, f2⟩
    clear ow hc hk eN hl4 h4 f1 f2
    by_cases e1 : N = 1
    · obtain ⟨r1, r2, r3⟩ := HG.out.1 (.inl e1)
      have HR : Hid (B = decide (N = 3) ∧ K = 4 ∧ E = 0) := ⟨HF.out.1.trans r1, HF.out.2.1.trans r2, HF.out.2.2.trans r3⟩
      clear r1 r2 r3
      subst e1
      go_wp2
      go_ret3
      rw [HR.out.1, HR.out.2.1, HR.out.2.2]
      exact ⟨rfl, HB.out⟩
    by_cases e3 : N = 3
    · obtain ⟨r1, r2, r3⟩ := HG.out.1 (.inr e3)
      have HR : Hid (B = decide (N = 3) ∧ K = 4 ∧ E = 0) := ⟨HF.out.1.trans r1, HF.out.2.1.trans r2, HF.out.2.2.trans r3⟩
      clear r1 r2 r3
      subst e3
      go_wp2
      go_ret3
      rw [HR.out.1, HR.out.2.1, HR.out.2.2]
      exact ⟨rfl, HB.out⟩
    obtain ⟨r1, r2, r3⟩ := HG.out.2 (by omega)
    have HR : Hid (B = false ∧ K = 0 ∧ E = 72) := ⟨HF.out.1.trans r1, HF.out.2.1.trans r2, HF.out.2.2.trans r3⟩
    have b1 : (N == 1) = false := by simp [e1]
    have b3 : (N == 3) = false := by simp [e3]
    have m1 : (N != 1) = true := by simp [e1]
    have m3 : (N != 3) = true := by simp [e3]
    clear r1 r2 r3
    go_wp2
    go_ret3
    rw [HR.out.1, HR.out.2.1, HR.out.2.2]
    exact ⟨rfl, HB.out⟩
  · rw [decide_eq_false h4]
    obtain ⟨r1, r2, r3⟩ := flags_few (xs := xs) (by rw [H.out.1.1]; omega)
    have HR : Hid (B = false ∧ K = 0 ∧ E = 70) := ⟨HF.out.1.trans r1, HF.out.2.1.trans r2, HF.out.2.2.trans r3⟩
    clear ow h4 r1 r2 r3
    go_wp2
    go_ret3
    rw [HR.out.1, HR.out.2.1, HR.out.2.2]
    exact ⟨rfl, HB.out⟩
end Go.Proofs.Ytkegpgmmlmineaa
