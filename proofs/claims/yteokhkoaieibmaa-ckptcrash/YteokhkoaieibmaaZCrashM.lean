/- What a crash leaves of a zone: the mathematics; the memory of one call of crashed. -/
import Derived.Test.YteokhkoaieibmaaZCopied
import Derived.Lib.SliceRun
namespace Go.Proofs.Yteokhkoaieibmaa
open Go.RowKit Go.Shelf
set_option linter.unusedVariables false
set_option maxRecDepth 4000

/-- The loss behind j questions; how much fits of block j; what is left behind j blocks. -/
def kst (k t : Int) : Nat → Int × Int
  | 0 => (k, t)
  | j + 1 => keptK (kst k t j).1 (kst k t j).2
def kFit (us : List (List Int)) (k t : Int) (j : Nat) : Nat := keptN (kst k t j).1 (kst k t j).2 (us.getD j []).length
def kRes (us : List (List Int)) (k t : Int) (j : Nat) : List (List Int) := (List.range j).map (fun i => tornL (us.getD i []) (kFit us k t i))
theorem kRes_succ (us : List (List Int)) (k t : Int) (j : Nat) : kRes us k t (j + 1) = kRes us k t j ++ [tornL (us.getD j []) (kFit us k t j)] := by simp [kRes, List.range_succ]
theorem kRes_length (us : List (List Int)) (k t : Int) (j : Nat) : (kRes us k t j).length = j := by simp [kRes]
theorem kst_le (k t : Int) : ∀ j, (kst k t j).1 ≤ k
  | 0 => Int.le_refl _
  | j + 1 => by
    have := kst_le k t j
    simp only [kst, keptK]
    split <;> simp <;> omega
theorem keptN_le (k t : Int) (n : Nat) : keptN k t n ≤ n := by unfold keptN; split <;> omega
theorem kst_low (k t : Int) : ∀ j, j ≤ k.toNat → kst k t j = (k - j, t)
  | 0, _ => by simp [kst]
  | j + 1, h => by
    rw [kst, kst_low k t j (by omega)]
    have : 0 < k - (j : Int) := by omega
    show keptK (k - j) t = _
    rw [keptK, if_pos this]
    congr 1
    omega
theorem kst_next (k t : Int) : (kst k t (k.toNat + 1)).1 ≤ 0 ∧ (kst k t (k.toNat + 1)).2 = 0 := by
  rw [kst, kst_low k t k.toNat (Nat.le_refl _)]
  have : ¬ 0 < k - (k.toNat : Int) := by omega
  show (keptK (k - k.toNat) t).1 ≤ 0 ∧ (keptK (k - k.toNat) t).2 = 0
  rw [keptK, if_neg this]
  exact ⟨by show k - (k.toNat : Int) ≤ 0; omega, rfl⟩
/-- What a crash leaves of the blocks that are not durable. -/
def keptB (us : List (List Int)) (k t : Int) : List (List Int) :=
  us.take k.toNat ++ (match us[k.toNat]? with | some D => if 0 < t then [tornL D (min t.toNat D.length)] else [] | none => [])
def crashB (bs : List (List Int)) (dn : Nat) (k t : Int) : List (List Int) := bs.take dn ++ keptB (bs.drop dn) k t
theorem kFit_low {us : List (List Int)} {k t : Int} {j : Nat} (h : j < k.toNat) : kFit us k t j = (us.getD j []).length := by
  rw [kFit, kst_low k t j (by omega)]
  have : 0 < k - (j : Int) := by omega
  show keptN (k - j) t _ = _
  rw [keptN, if_pos this]
theorem kFit_mid (us : List (List Int)) (k t : Int) : kFit us k t k.toNat = min t.toNat (us.getD k.toNat []).length := by
  rw [kFit, kst_low k t k.toNat (Nat.le_refl _)]
  have : ¬ 0 < k - (k.toNat : Int) := by omega
  show keptN (k - k.toNat) t _ = _
  rw [keptN, if_neg this]
theorem kFit_next (us : List (List Int)) (k t : Int) : kFit us k t (k.toNat + 1) = 0 := by
  have h := kst_next k t
  have : ¬ 0 < (kst k t (k.toNat + 1)).1 := by omega
  simp [kFit, keptN, this, h.2]
theorem getD_take_range (us : List (List Int)) : ∀ j, j ≤ us.length → (List.range j).map (fun i => us.getD i []) = us.take j
  | 0, _ => by simp
  | j + 1, h => by
    rw [List.range_succ, List.map_append, getD_take_range us j (by omega), take_snoc (x := us.getD j []) (by simp [List.getD, show j < us.length by omega])]
    rfl
theorem kRes_low {us : List (List Int)} {k t : Int} : ∀ {j : Nat}, j ≤ k.toNat → j ≤ us.length → kRes us k t j = us.take j := by
  intro j h1 h2
  rw [← getD_take_range us j h2, kRes]
  apply List.map_congr_left
  intro i hi
  rw [kFit_low (by have := List.mem_range.1 hi; omega), tornL_all]
/-- Where the iterator stops, that is what is left. -/
theorem kRes_eq {us : List (List Int)} {k t : Int} {j : Nat} (hl : ∀ D ∈ us, 0 < D.length) (hj : j ≤ us.length) (hp : ∀ i, i < j → 0 < kFit us k t i) (he : j = us.length ∨ (j < us.length ∧ kFit us k t j = 0)) : kRes us k t j = keptB us k t := by
  have hpos : ∀ i, i < us.length → 0 < (us.getD i []).length := by
    intro i hi
    have : us.getD i [] = us[i] := by simp [List.getD, hi]
    rw [this]; exact hl _ (List.getElem_mem hi)
  rcases Nat.lt_trichotomy j k.toNat with h | h | h
  · -- it has come to its end
    have hj' : j = us.length := by
      rcases he with he | ⟨he1, he2⟩
      · exact he
      · rw [kFit_low h] at he2
        have := hpos j he1
        omega
    rw [kRes_low (by omega) hj, keptB, List.getElem?_eq_none (by omega)]
    simp [hj']
    rw [List.take_of_length_le (by omega)]
  · rw [kRes_low (by omega) hj, keptB, ← h]
    rcases he with he | ⟨he1, he2⟩
    · rw [List.getElem?_eq_none (by omega)]; simp
    · rw [h, kFit_mid] at he2
      have := hpos j he1
      rw [h] at this
      have ht : ¬ 0 < t := by omega
      rw [List.getElem?_eq_getElem he1]
      simp [ht]
  · have hj1 : j = k.toNat + 1 := by
      rcases Nat.lt_or_ge (k.toNat + 1) j with h' | h'
      · have := hp _ h'
        rw [kFit_next] at this; omega
      · omega
    subst hj1
    rw [kRes_succ, kRes_low (Nat.le_refl _) (by omega), keptB]
    have h0 := hp k.toNat (by omega)
    rw [kFit_mid] at h0 ⊢
    have ht : 0 < t := by omega
    rw [List.getElem?_eq_getElem (by omega)]
    have e : us.getD k.toNat [] = us[k.toNat] := by simp [List.getD, show k.toNat < us.length by omega]
    simp only [e, ht, if_true]

/-- An array of headers, all of it. -/
def Arr (W : World) (a : Option Addr) (c : Nat) (L : List Value) : Prop := (a = none ∧ c = 0 ∧ L = []) ∨ ∃ r, a = some ⟨r, 0, none⟩ ∧ Blk W r L 39 ∧ L.length = c ∧ c ≤ maxLen
theorem Arr.len {W : World} {a : Option Addr} {c : Nat} {L : List Value} (h : Arr W a c L) : L.length = c := by
  rcases h with ⟨_, rfl, rfl⟩ | ⟨r, _, _, h, _⟩
  · rfl
  · exact h
theorem RowAt.arr {O : Nat → Prop} {W : World} {a : Option Addr} {n c : Nat} {bs : List (List Int)} (h : RowAt O W (.slice a n c) bs) : ∃ vs rest, Arr W a c (vs ++ rest) ∧ BsAt O W vs bs ∧ vs.length = n ∧ n = bs.length ∧ n ≤ c := by
  obtain ⟨vs, h1, h2, h3, h4⟩ := h
  obtain ⟨h5, h6⟩ := own_cap h1
  have hv : vs.length = n := by rw [h3.1, h6]
  rcases h1.2 with ⟨hv', hn⟩ | ⟨g, cap, cur, hv', hb, hg, hc, hcm, hsz, htk⟩
  · cases hv'
    have : vs = [] := List.length_eq_zero_iff.1 hv
    exact ⟨vs, [], .inl ⟨rfl, rfl, by simp [this]⟩, h3, hv, h6, h5⟩
  · cases hv'
    refine ⟨vs, cur.toList.drop bs.length, .inr ⟨g, rfl, ?_, ?_, hcm⟩, h3, hv, rfl, h5⟩
    · have : vs ++ cur.toList.drop bs.length = cur.toList := by
        rw [← htk]; simp
      rw [this]
      exact hg
    · simp [hv, hsz]; omega
theorem Arr.row {O : Nat → Prop} {W : World} {a : Option Addr} {c : Nat} {hs rest : List Value} {bs : List (List Int)} (h : Arr W a c (hs ++ rest)) (hb : BsAt O W hs bs) (hl : bs.length ≤ 100000) (hO : ∀ r, a = some r → O r.block) : RowAt O W (.slice a bs.length c) bs := by
  refine ⟨hs, ⟨by rw [hb.1]; omega, ?_⟩, ?_, hb, hl⟩
  · rcases h with ⟨rfl, rfl, hL⟩ | ⟨r, rfl, hr, hlen, hcm⟩
    · have : hs = [] := by simp at hL; exact hL.1
      have : bs.length = 0 := by rw [← hb.1, this]; rfl
      exact .inl ⟨by rw [this], this⟩
    · refine .inr ⟨r, c, _, rfl, Nat.zero_le _, hr, ?_, hcm, by simp at hlen ⊢; exact hlen, ?_⟩
      · simp at hlen; have := hb.1; omega
      · simp [← hb.1]
  · intro r hr
    cases a with
    | none => cases hr
    | some x => cases hr; exact hO _ rfl
end Go.Proofs.Yteokhkoaieibmaa
