/- Lists of bytes whose headers lie one behind the other: what came in, and what a call has built. -/
import Derived.Test.YtpliokkmiijieaaDoorApp
namespace Go.Proofs.YtpliokkmiijieaaDoor
open Go.RowKit
set_option linter.unusedVariables false
set_option maxRecDepth 4000

def IsRows (w : World) (a : Option Addr) (len cap : Nat) (A : Nat → Option Addr) (L C : Nat → Nat) (Z : Nat → List Int) : Prop :=
  (a = none ∧ len = 0 ∧ cap = 0) ∨
  ∃ x, a = some x ∧ len ≤ cap ∧ cap ≤ maxLen ∧ ∀ r, r < cap → w.cell? (x.add r) = some (.slice (A r) (L r) (C r)) ∧ L r ≤ C r ∧ C r ≤ maxLen ∧ (Z r).length = C r ∧ (∀ n ∈ Z r, (Lit.int .u8 n).wf = true) ∧ (A r = none → C r = 0) ∧
    ∀ a', A r = some a' → 0 ≤ a'.block ∧ ∀ c, c < C r → w.cell? (a'.add c) = some (.int .u8 ((Z r).getD c 0))
theorem own_only {w w' : World} {g base : Nat} {v : Value} {n : Nat} {xs : List Value} (h : w.ownsRow base 5 1 v n xs) (ho : Only g w w') (hg : g < base) : w'.ownsRow base 5 1 v n xs := by
  obtain ⟨h1, h2⟩ := h
  refine ⟨h1, ?_⟩
  rcases h2 with h2 | ⟨k, cap, cur, hv, hb, hk, hr⟩
  · exact .inl h2
  · exact .inr ⟨k, cap, cur, hv, hb, by rw [ho.block k (Array.getElem?_eq_some_iff.1 hk).1 (by omega)]; exact hk, hr⟩
/-- One list's header, and the list. -/
def PIn (w : World) (x : Addr) (zs : List Int) : Prop := ∃ A L C, w.cell? x = some (.slice A L C) ∧ BIn w A L zs ∧ L ≤ C ∧ (A = none → L = 0 ∧ C = 0)
/-- Lists of bytes whose headers lie one behind the other. -/
def PsIn (w : World) (a : Option Addr) (len : Nat) (P : Nat → List Int) : Prop :=
  len = 0 ∨ ∃ b off, a = some ⟨b, off, none⟩ ∧ ∀ r, r < len → PIn w ⟨b, off + r, none⟩ (P r)
theorem PIn.below {w w' : World} {x : Addr} {zs : List Int} (h : PIn w x zs) (hb : Below w.heap.size w w') : PIn w' x zs := by
  obtain ⟨A, L, C, hc, h1, h2, h3⟩ := h
  exact ⟨A, L, C, by rw [hb.cell (old_block hc)]; exact hc, h1.below hb, h2, h3⟩
theorem PsIn.below {w w' : World} {a : Option Addr} {len : Nat} {P : Nat → List Int} (h : PsIn w a len P) (hb : Below w.heap.size w w') : PsIn w' a len P := by
  rcases h with h | ⟨b, off, ha, h⟩
  · exact .inl h
  · exact .inr ⟨b, off, ha, fun r hr => (h r hr).below hb⟩
theorem rows_in {w : World} {a : Option Addr} {len cap : Nat} {A : Nat → Option Addr} {L C : Nat → Nat} {Z : Nat → List Int} (h : IsRows w a len cap A L C Z) : PsIn w a len (fun r => (Z r).take (L r)) ∧ len ≤ maxLen := by
  rcases h with ⟨rfl, rfl, rfl⟩ | ⟨x, rfl, hl, hm, hr⟩
  · exact ⟨.inl rfl, Nat.zero_le _⟩
  · refine ⟨?_, Nat.le_trans hl hm⟩
    by_cases h0 : len = 0
    · exact .inl h0
    · have hc0 := (hr 0 (by omega)).1
      obtain ⟨b, off, spot⟩ := x
      have hs : spot = none := by simpa [Addr.add] using World.cell?_spot hc0
      subst hs
      refine .inr ⟨b, off, rfl, fun r hlt => ?_⟩
      obtain ⟨hc, h1, h2, h3, h4, h5, h6⟩ := hr r (by omega)
      rw [Addr.add_mid] at hc
      have hrow : (A r = none ∧ L r = 0 ∧ C r = 0 ∧ Z r = []) ∨ ∃ x, A r = some x ∧ L r ≤ C r ∧ C r ≤ maxLen ∧ (Z r).length = C r ∧ (∀ i, i < (Z r).length → w.cell? (x.add i) = some (.int .u8 ((Z r).getD i 0))) ∧ ∀ n ∈ Z r, (Lit.int .u8 n).wf = true := by
        cases hA : A r with
        | none => have := h5 hA; exact .inl ⟨rfl, by omega, this, List.length_eq_zero_iff.1 (by omega)⟩
        | some y => exact .inr ⟨y, rfl, h1, h2, h3, fun i hi => (h6 y hA).2 i (by omega), h4⟩
      have := row_bin hrow
      exact ⟨_, _, _, hc, this.1, this.2.1, this.2.2⟩
/-- The lists one behind the other. -/
def joinN (P : Nat → List Int) : Nat → List Int
  | 0 => []
  | k + 1 => joinN P k ++ P k
theorem joinN_length {P : Nat → List Int} {M n : Nat} (h : ∀ r, r < n → (P r).length ≤ M) : ∀ k, k ≤ n → (joinN P k).length ≤ k * M
  | 0, _ => by simp [joinN]
  | k + 1, hk => by
    have := joinN_length h k (by omega)
    have := h k (by omega)
    rw [joinN, List.length_append, Nat.succ_mul]; omega
theorem BIn.nil_or {w : World} {a : Option Addr} {n : Nat} {zs : List Int} (h : BIn w a n zs) : ∀ z ∈ zs, Fits8 z := h.2.2.1
end Go.Proofs.YtpliokkmiijieaaDoor
