/- The bytes of an option, as a client writes them; a row of bytes written out is the call's own. -/
import Derived.Test.YtkegpgmmlmineaaGKnown
namespace Go.Proofs.Ytkegpgmmlmineaa
open Go.RowKit
set_option linter.unusedVariables false
set_option maxRecDepth 4000

def hd16 (K n : Int) : List Int := [73, 72, 65, 86, 69, 79, 80, 84, K / 16777216, K / 65536 % 256, K / 256 % 256, K % 256, 0, 0, n / 256, n % 256]
theorem hd_parts (K n : Int) (R : List Int) (k0 : 0 ≤ K) (n0 : 0 ≤ n) : nM (hd16 K n ++ R) = have8 ∧ nK (hd16 K n ++ R) = K ∧ nL (hd16 K n ++ R) = n := by
  refine ⟨?_, ?_, ?_⟩
  · unfold nM hd16
    simp [numI, have8]
  · unfold nK hd16
    simp [numI]
    omega
  · unfold nL hd16
    simp [numI]
    omega
theorem hd_fits (K n : Int) (k0 : 0 ≤ K) (k1 : K < 4294967296) (n0 : 0 ≤ n) (n1 : n ≤ 1024) : ∀ z ∈ hd16 K n, Fits8 z := by
  intro z hz
  simp only [hd16, List.mem_cons, List.not_mem_nil, or_false] at hz
  unfold Fits8
  rcases hz with rfl | rfl | rfl | rfl | rfl | rfl | rfl | rfl | rfl | rfl | rfl | rfl | rfl | rfl | rfl | rfl <;> omega
theorem hd_len (K n : Int) : (hd16 K n).length = 16 := rfl
theorem next_whole (K : Int) (n : Nat) (D Y : List Int) (k0 : 0 ≤ K) (hn : D.length = n) (n1 : n ≤ 1024) :
    nextE ((hd16 K n ++ D) ++ Y) = 0 ∧ nextK ((hd16 K n ++ D) ++ Y) = K ∧ nextC ((hd16 K n ++ D) ++ Y) = 16 + (n : Int) ∧ nextD ((hd16 K n ++ D) ++ Y) = D := by
  rw [List.append_assoc]
  obtain ⟨p1, p2, p3⟩ := hd_parts K n (D ++ Y) k0 (by omega)
  have hl : (hd16 K n ++ (D ++ Y)).length = 16 + (n + Y.length) := by rw [List.length_append, List.length_append, hd_len, hn]
  obtain ⟨r1, r2, r3, r4⟩ := next_good (xs := hd16 K n ++ (D ++ Y)) (by rw [hl]; omega) p1 (by rw [p3]; omega) (by rw [p3, hl]; omega)
  refine ⟨r4, r1.trans p2, by rw [r3, p3], ?_⟩
  rw [r2, p3, Int.toNat_natCast]
  have e1 : (hd16 K n ++ (D ++ Y)).drop 16 = D ++ Y := List.drop_left' (hd_len K n)
  rw [e1]
  exact List.take_left' hn
theorem next_front (K : Int) (n cut : Nat) (D : List Int) (k0 : 0 ≤ K) (hn : D.length = n) (n1 : n ≤ 1024) (hc : cut < 16 + n) :
    nextE ((hd16 K n ++ D).take cut) = 70 ∧ nextC ((hd16 K n ++ D).take cut) = 0 := by
  have hl : ((hd16 K n ++ D).take cut).length = cut := by rw [List.length_take, List.length_append, hd_len, hn]; omega
  by_cases h16 : cut < 16
  · obtain ⟨_, _, r3, r4⟩ := next_few (xs := (hd16 K n ++ D).take cut) (by rw [hl]; exact h16)
    exact ⟨r4, r3⟩
  · have e : (hd16 K n ++ D).take cut = hd16 K n ++ D.take (cut - 16) := by
      rw [List.take_append, hd_len, List.take_of_length_le (by rw [hd_len]; omega)]
    obtain ⟨p1, p2, p3⟩ := hd_parts K n (D.take (cut - 16)) k0 (by omega)
    rw [← e] at p1 p2 p3
    obtain ⟨_, _, r3, r4⟩ := next_more (xs := (hd16 K n ++ D).take cut) (by rw [hl]; exact h16) p1 (by rw [p3]; omega) (by rw [p3, hl]; omega)
    exact ⟨r4, r3⟩
/-- A row of bytes written out is the call's own. -/
theorem own_lit {w : World} {n g : Nat} {L : List Int} {C : Array Value} (hg : w.heap.size = g) (hC : C = (u8s L).toArray) (hn : L.length = n) (hm : n ≤ maxLen) : (w.alloc (.cells C 5)).ownsRow g 5 1 (.slice (some ⟨g, 0, none⟩) n n) n (u8s L) := by
  subst hg
  subst hC
  refine ⟨by rw [u8s_length, hn, Nat.mul_one], .inr ⟨w.heap.size, n, (u8s L).toArray, rfl, Nat.le_refl _, heap_alloc_new w _, Nat.le_refl _, hm, by simp [u8s, hn], ?_⟩⟩
  rw [Nat.mul_one, List.take_of_length_le (by simp [u8s, hn])]
end Go.Proofs.Ytkegpgmmlmineaa
