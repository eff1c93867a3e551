/- P29 -/
import Derived.Test.YtcdnjeiamihhbabGreatP28
set_option linter.unusedVariables false
set_option maxRecDepth 4000
namespace Go.Proofs.YtcdnjeiamihhbabGreat
open Go.RowKit

end Go.Proofs.YtcdnjeiamihhbabGreat
namespace Go.Proofs.YtcdnjeiamihhbabGreat
def stZ (L : List Int) (z : Int) : Int := if 0 ≤ z then L.getD z.toNat 0 else 0
def turnZ (L : List Int) (z a b : Int) : List Int := if stZ L z = a then L.set z.toNat b else L
def firstN (L : List Int) (a : Int) : Nat := L.findIdx (fun x => x == a)
def takeZ (L : List Int) : List Int := if firstN L 1 < L.length then L.set (firstN L 1) 2 else L
def takeI (L : List Int) : Int := if firstN L 1 < L.length then firstN L 1 else 0
def takeB (L : List Int) : Bool := decide (firstN L 1 < L.length)
def listTo (L : List Int) (a : Int) : Nat → List Int
 | 0 => []
 | k + 1 => if L.getD k 0 = a then listTo L a k ++ [(k : Int)] else listTo L a k
def listZ (L : List Int) (a : Int) : List Int := listTo L a L.length
def cntZ (L : List Int) (a : Int) : Nat := (listZ L a).length
def newZ (n : Nat) : List Int := 4 :: 4 :: List.replicate (n - 2) 1
theorem getD_at {L : List Int} {i : Nat} (h : i < L.length) : L.getD i 0 = L[i] := by simp [List.getD, h]
theorem getD_out {L : List Int} {i : Nat} (h : L.length ≤ i) : L.getD i 0 = 0 := by simp [List.getD, List.getElem?_eq_none h]
theorem stZ_nat (L : List Int) (i : Nat) : stZ L i = L.getD i 0 := by simp [stZ]
theorem stZ_out {L : List Int} {z : Int} (h : z < 0 ∨ (L.length : Int) ≤ z) : stZ L z = 0 := by
 unfold stZ
 split
 ·exact getD_out (by omega)
 ·rfl
theorem stZ_in {L : List Int} {z a : Int} (h : stZ L z = a) (ha : a ≠ 0) : 0 ≤ z ∧ z < L.length := by
 rcases Int.lt_or_le z 0 with h0 | h0
 ·exact absurd (h.symm.trans (stZ_out (.inl h0))) ha
 ·rcases Int.lt_or_le z L.length with h1 | h1
  ·exact ⟨h0, h1⟩
  ·exact absurd (h.symm.trans (stZ_out (.inr h1))) ha
theorem turnZ_length (L : List Int) (z a b : Int) : (turnZ L z a b).length = L.length := by unfold turnZ; split <;> simp
theorem takeZ_length (L : List Int) : (takeZ L).length = L.length := by unfold takeZ; split <;> simp
theorem newZ_length {n : Nat} (h : 2 ≤ n) : (newZ n).length = n := by simp [newZ]; omega
/-- The first of a state. -/
theorem first_le (L : List Int) (a : Int) : firstN L a ≤ L.length := List.findIdx_le_length
theorem first_at {L : List Int} {a : Int} (h : firstN L a < L.length) : L.getD (firstN L a) 0 = a := by
 have e : (L[firstN L a]'h == a) = true := List.findIdx_getElem (w := h)
 rw [getD_at h]
 simpa using e
theorem first_not {L : List Int} {a : Int} {i : Nat} (h : i < firstN L a) : L.getD i 0 ≠ a := by
 have hl : i < L.length := Nat.lt_of_lt_of_le h (first_le L a)
 have := List.not_of_lt_findIdx h
 rw [getD_at hl]
 intro e
 simp [e] at this
theorem first_is {L : List Int} {a : Int} {i : Nat} (hl : i < L.length) (hi : L.getD i 0 = a) (hn : ∀ j, j < i → L.getD j 0 ≠ a) : firstN L a = i := by
 rcases Nat.lt_trichotomy (firstN L a) i with h | h | h
 ·exact absurd (first_at (by omega)) (hn _ h)
 ·exact h
 ·exact absurd hi (first_not h)
theorem first_none {L : List Int} {a : Int} (hn : ∀ j, j < L.length → L.getD j 0 ≠ a) : firstN L a = L.length := by
 rcases Nat.lt_or_ge (firstN L a) L.length with h | h
 ·exact absurd (first_at h) (hn _ h)
 ·have := first_le L a; omega
/-- The states behind a store. -/
theorem getD_set (L : List Int) (i j : Nat) (b : Int) (hi : i < L.length) : (L.set i b).getD j 0 = if j = i then b else L.getD j 0 := by
 by_cases h : j = i
 ·subst h; simp [List.getD, hi]
 ·simp [List.getD, h, List.getElem?_set_ne (Ne.symm h)]
theorem take_turn (L : List Int) : takeZ L = if firstN L 1 < L.length then turnZ L (firstN L 1) 1 2 else L := by
 unfold takeZ
 split
 ·rename_i h
  unfold turnZ
  rw [stZ_nat, if_pos (first_at h)]
  simp
 ·rfl
/-! ### The list of a state -/
theorem listTo_length (L : List Int) (a : Int) : ∀ k, (listTo L a k).length ≤ k
 | 0 => Nat.le_refl _
 | k + 1 => by
  have := listTo_length L a k
  unfold listTo
  split
  ·simp; omega
  ·omega
theorem listTo_step (L : List Int) (a : Int) (k : Nat) : listTo L a (k + 1) = if L.getD k 0 = a then listTo L a k ++ [(k : Int)] else listTo L a k := rfl
theorem listTo_mem {L : List Int} {a : Int} : ∀ {k : Nat} {x : Int}, x ∈ listTo L a k ↔ ∃ i, i < k ∧ L.getD i 0 = a ∧ x = i
 | 0, x => by simp [listTo]
 | k + 1, x => by
  have ih := listTo_mem (L := L) (a := a) (k := k) (x := x)
  unfold listTo
  split
  ·rename_i h
   rw [List.mem_append, ih, List.mem_singleton]
   constructor
   ·rintro (⟨i, h1, h2, h3⟩ | rfl)
    ·exact ⟨i, by omega, h2, h3⟩
    ·exact ⟨k, by omega, h, rfl⟩
   ·rintro ⟨i, h1, h2, h3⟩
    rcases Nat.lt_or_ge i k with h4 | h4
    ·exact .inl ⟨i, h4, h2, h3⟩
    ·have : i = k := by omega
     subst this; exact .inr h3
  ·rename_i h
   rw [ih]
   constructor
   ·rintro ⟨i, h1, h2, h3⟩; exact ⟨i, by omega, h2, h3⟩
   ·rintro ⟨i, h1, h2, h3⟩
    rcases Nat.lt_or_ge i k with h4 | h4
    ·exact ⟨i, h4, h2, h3⟩
    ·have : i = k := by omega
     subst this; exact absurd h2 h
theorem cnt_set {L : List Int} {a : Int} {z : Nat} {b : Int} (hz : z < L.length) : ∀ k, (listTo (L.set z b) a k).length + (if z < k ∧ L.getD z 0 = a then 1 else 0) = (listTo L a k).length + (if z < k ∧ b = a then 1 else 0)
 | 0 => by simp [listTo]
 | k + 1 => by
  have ih := cnt_set (a := a) (b := b) hz k
  have e := getD_set L z k b hz
  rw [listTo_step, listTo_step, e]
  rcases Nat.lt_trichotomy z k with h | h | h
  ·have h' : z < k + 1 := by omega
   have hk : ¬ k = z := by omega
   simp only [h, h', hk, true_and, if_false] at ih ⊢
   by_cases h1 : L.getD k 0 = a
   ·simp only [h1, if_true, List.length_append, List.length_singleton]; omega
   ·simp only [h1, if_false]; exact ih
  ·subst h
   have h' : z < z + 1 := by omega
   simp only [Nat.lt_irrefl, false_and, if_false, Nat.add_zero] at ih
   simp only [h', true_and, if_true]
   by_cases h1 : b = a
   ·subst h1
    by_cases h2 : L.getD z 0 = b
    ·simp only [h2, if_true, List.length_append, List.length_singleton]; omega
    ·simp only [h2, if_true, if_false, List.length_append, List.length_singleton]; omega
   ·by_cases h2 : L.getD z 0 = a
    ·simp only [h1, h2, if_true, if_false, List.length_append, List.length_singleton]; omega
    ·simp only [h1, h2, if_false]; omega
  ·have h0 : ¬ z < k := by omega
   have h' : ¬ z < k + 1 := by omega
   have hk : ¬ k = z := by omega
   simp only [h0, h', hk, false_and, if_false, Nat.add_zero] at ih ⊢
   by_cases h1 : L.getD k 0 = a
   ·simp only [h1, if_true, List.length_append, List.length_singleton]; omega
   ·simp only [h1, if_false]; exact ih
theorem cnt_turn {L : List Int} {z : Nat} {c b : Int} (a : Int) (hz : z < L.length) (hc : L.getD z 0 = c) : cntZ (L.set z b) a + (if c = a then 1 else 0) = cntZ L a + (if b = a then 1 else 0) := by
 have := cnt_set (a := a) (b := b) hz L.length
 unfold cntZ listZ
 rw [List.length_set]
 simp only [hz, true_and, hc] at this
 exact this
end Go.Proofs.YtcdnjeiamihhbabGreat
namespace Go.Proofs.YtcdnjeiamihhbabGreat
open Go.RowKit
section
theorem blk_ne' {W : World} {g g' : Nat} {L L' : List Value} {t t' : TypeId} (h : Blk W g L t) (h' : Blk W g' L' t') (ht : t ≠ t') : g ≠ g' := by
 rintro rfl
 have e : some (Obj.cells L.toArray t (0, 0)) = some (Obj.cells L'.toArray t' (0, 0)) := h.symm.trans h'
 simp only [Option.some.injEq, Obj.cells.injEq] at e
 exact ht e.2.1
theorem below_less {n m : Nat} {w w' : World} (h : Below m w w') (hn : n ≤ m) : Below n w w' := ⟨h.os, h.tape, h.output, h.size, fun k hk => h.block k (by omega)⟩
structure SegP (W : World) (p g : Nat) (r : Int) (L : List Int) : Prop where
 hp : Blk W p [.slice (some ⟨g, 0, none⟩) L.length L.length, .int .i64 r] 191
 hg : Blk W g (u8s L) 5
 len : 2 ≤ L.length ∧ L.length ≤ 256
 fit : ∀ x ∈ L, Fits8 x
section
variable {W W' : World} {p g : Nat} {r : Int} {L : List Int} {O : Nat → Prop}
theorem SegP.c0 (h : SegP W p g r L) : W.cell? ⟨p, 0, none⟩ = some (.slice (some ⟨g, 0, none⟩) L.length L.length) := h.hp.cell 0
theorem SegP.at (h : SegP W p g r L) {i : Nat} (hi : i < L.length) : W.cell? ⟨g, i, none⟩ = some (.int .u8 (L.getD i 0)) := by
 rw [h.hg.cell]; simp [u8s, List.getD, hi]
theorem SegP.free (h : SegP W p g r L) (i : Nat) : W.frozen? ⟨g, i, none⟩ = false := h.hg.frozen i
theorem SegP.lt (h : SegP W p g r L) : p < W.heap.size ∧ g < W.heap.size := ⟨h.hp.lt, h.hg.lt⟩
theorem SegP.out (h : SegP W p g r L) (ho : Out O W W') (h1 : ¬ O p) (h2 : ¬ O g) : SegP W' p g r L := ⟨ho.blk h.hp h1, ho.blk h.hg h2, h.len, h.fit⟩
theorem SegP.under (h : SegP W p g r L) (hb : Below W.heap.size W W') : SegP W' p g r L := h.out (below_out Non hb) (fun e => e) (fun e => e)
theorem SegP.ne (h : SegP W p g r L) : p ≠ g := blk_ne' h.hp h.hg (by decide)
theorem SegP.set (h : SegP W p g r L) (i : Nat) {b : Int} (hb : Fits8 b) : SegP (W.setCell ⟨g, i, none⟩ (.int .u8 b)) p g r (L.set i b) := by
 refine ⟨?_, ?_, by simpa using h.len, fun x hx => ?_⟩
 ·have := h.hp.set_other (a := ⟨g, i, none⟩) h.ne (.int .u8 b)
  simpa using this
 ·have := h.hg.set i (.int .u8 b)
  rw [show (u8s L).set i (.int .u8 b) = u8s (L.set i b) by simp [u8s, List.map_set]] at this
  exact this
 ·rcases List.mem_or_eq_of_mem_set hx with h' | rfl
  ·exact h.fit x h'
  ·exact hb
theorem out_one (w : World) (g i : Nat) (v : Value) : Out (fun j => j = g) w (w.setCell ⟨g, i, none⟩ v) := (Out.refl (fun j => j = g) w).setCell (p := ⟨g, i, none⟩) (.inl rfl) v
end
theorem gState_of (p g : Nat) (r : Int) (L : List Int) (z : Int) (w : World) (h : SegP w p g r L) :
  Calls Tryz.prog 127 #[.pointer (some ⟨p, 0, none⟩), .int .i64 z] w fun e w' => e = .returned (.int .u8 (stZ L z)) ∧ w' = w := by
 have c0 := h.c0
 obtain ⟨N, hN⟩ : ∃ N, N = L.length := ⟨_, rfl⟩
 rw [← hN] at c0
 have HS : Hid (SegP w p g r L ∧ N = L.length) := ⟨h, hN⟩
 obtain ⟨S, hS⟩ : ∃ S, S = stZ L z := ⟨_, rfl⟩
 rw [← hS]
 have HZ : Hid (S = stZ L z) := hS
 clear h hS hN
 rcases Int.lt_or_le z 0 with h0 | h0
 ·have e : S = 0 := HZ.out.trans (stZ_out (.inl h0))
  subst e
  go_enter Tryz.func127, Tryz.ntmps127
  go_wp2
  go_ret
  exact ⟨rfl, rfl⟩
 ·rcases Int.lt_or_le z N with h1 | h1
  ·obtain ⟨i, rfl⟩ : ∃ i : Nat, z = i := ⟨z.toNat, by omega⟩
   have hi : i < L.length := by have := HS.out.2; omega
   have c1 : w.cell? ⟨g, i, none⟩ = some (.int .u8 S) := by rw [HZ.out, stZ_nat]; exact HS.out.1.at hi
   clear h0 hi
   have h1' : i < N := by omega
   go_enter Tryz.func127, Tryz.ntmps127
   go_wp2
   go_ret
   exact ⟨rfl, rfl⟩
  ·have e : S = 0 := HZ.out.trans (stZ_out (.inr (by rw [← HS.out.2]; exact h1)))
   subst e
   go_enter Tryz.func127, Tryz.ntmps127
   go_wp2
   go_ret
   exact ⟨rfl, rfl⟩
end
def TurnGot (w : World) (p g : Nat) (r : Int) (L : List Int) (z a b : Int) (e : Ending) (w' : World) : Prop :=
 e = .returned (.bool (decide (stZ L z = a))) ∧ SegP w' p g r (turnZ L z a b) ∧ Out (fun j => j = g) w w'
theorem gTurn_of (p g : Nat) (r : Int) (L : List Int) (z a b : Int) (w : World) (h : SegP w p g r L) (ha : a ≠ 0) (hb : Fits8 b) :
  Calls Tryz.prog 105 #[.pointer (some ⟨p, 0, none⟩), .int .i64 z, .int .u8 a, .int .u8 b] w fun e w' => TurnGot w p g r L z a b e w' := by
 obtain ⟨S, hS⟩ : ∃ S, S = stZ L z := ⟨_, rfl⟩
 have hst := gState_of p g r L z w h
 rw [← hS] at hst
 by_cases hq : S = a
 ·have hst0 : stZ L z = a := hS.symm.trans hq
  obtain ⟨z0, z1⟩ := stZ_in hst0 ha
  obtain ⟨i, rfl⟩ : ∃ i : Nat, z = i := ⟨z.toNat, by omega⟩
  have hi : i < L.length := by omega
  have fin : TurnGot w p g r L i a b (.returned (.bool true)) (w.setCell ⟨g, i, none⟩ (.int .u8 b)) := by
   refine ⟨by rw [decide_eq_true hst0], ?_, out_one _ _ _ _⟩
   unfold turnZ
   rw [if_pos hst0]
   exact h.set i hb
  have HF : Hid (TurnGot w p g r L i a b (.returned (.bool true)) (w.setCell ⟨g, i, none⟩ (.int .u8 b))) := fin
  have HT : Hid (Calls Tryz.prog 127 #[.pointer (some ⟨p, 0, none⟩), .int .i64 i] w fun e w' => e = .returned (.int .u8 S) ∧ w' = w) := hst
  have c0 := h.c0
  have c1 := h.at hi
  have z2 := h.free i
  generalize L.getD i 0 = X at c1
  generalize hN : L.length = N at c0 hi
  clear fin hst hst0 z0 z1 h hS hN ha hb
  subst hq
  go_enter Tryz.func105, Tryz.ntmps105
  go_wp2_with (go_at_call 127; refine HT.out.mono ?_; rintro e w' ⟨rfl, rfl⟩)
  go_ret
  exact HF.out
 ·have hst0 : ¬ stZ L z = a := fun e => hq (hS.trans e)
  have fin : TurnGot w p g r L z a b (.returned (.bool false)) w := by
   refine ⟨by rw [decide_eq_false hst0], ?_, Out.refl _ _⟩
   unfold turnZ
   rw [if_neg hst0]
   exact h
  have HF : Hid (TurnGot w p g r L z a b (.returned (.bool false)) w) := fin
  have HT : Hid (Calls Tryz.prog 127 #[.pointer (some ⟨p, 0, none⟩), .int .i64 z] w fun e w' => e = .returned (.int .u8 S) ∧ w' = w) := hst
  clear fin hst hst0 h hS ha hb
  go_enter Tryz.func105, Tryz.ntmps105
  go_wp2_with (go_at_call 127; refine HT.out.mono ?_; rintro e w' ⟨rfl, rfl⟩)
  go_ret
  exact HF.out
theorem gFill_of (p g : Nat) (r : Int) (L : List Int) (z : Int) (w : World) (h : SegP w p g r L) :
  Calls Tryz.prog 69 #[.pointer (some ⟨p, 0, none⟩), .int .i64 z] w fun e w' => TurnGot w p g r L z 2 3 e w' := by
 have HT : Hid (Calls Tryz.prog 105 #[.pointer (some ⟨p, 0, none⟩), .int .i64 z, .int .u8 2, .int .u8 3] w fun e w' => TurnGot w p g r L z 2 3 e w') := gTurn_of p g r L z 2 3 w h (by decide) (by unfold Fits8; omega)
 clear h
 go_enter Tryz.func69, Tryz.ntmps69
 go_wp2_with (go_at_call 105; refine HT.out.mono ?_; rintro e w' ⟨rfl, h1, h2⟩)
 go_ret
 exact ⟨rfl, h1, h2⟩
theorem gFound_of (p g : Nat) (r : Int) (L : List Int) (z : Int) (w : World) (h : SegP w p g r L) :
  Calls Tryz.prog 67 #[.pointer (some ⟨p, 0, none⟩), .int .i64 z] w fun e w' => TurnGot w p g r L z 1 3 e w' := by
 have HT : Hid (Calls Tryz.prog 105 #[.pointer (some ⟨p, 0, none⟩), .int .i64 z, .int .u8 1, .int .u8 3] w fun e w' => TurnGot w p g r L z 1 3 e w') := gTurn_of p g r L z 1 3 w h (by decide) (by unfold Fits8; omega)
 clear h
 go_enter Tryz.func67, Tryz.ntmps67
 go_wp2_with (go_at_call 105; refine HT.out.mono ?_; rintro e w' ⟨rfl, h1, h2⟩)
 go_ret
 exact ⟨rfl, h1, h2⟩
theorem index_of (p g : Nat) (r : Int) (L : List Int) (a : Int) (w : World) (h : SegP w p g r L) :
  Calls Tryz.prog 164 #[.slice (some ⟨g, 0, none⟩) L.length L.length, .int .u8 a] w fun e w' => e = .returned (.int .i64 (if firstN L a < L.length then (firstN L a : Int) else -1)) ∧ w' = w := by
 obtain ⟨N, hN⟩ : ∃ N, N = L.length := ⟨_, rfl⟩
 obtain ⟨R, hR⟩ : ∃ R : Int, R = (if firstN L a < L.length then (firstN L a : Int) else -1) := ⟨_, rfl⟩
 rw [← hR]
 have HS : Hid (SegP w p g r L ∧ N = L.length ∧ R = (if firstN L a < L.length then (firstN L a : Int) else -1)) := ⟨h, hN, hR⟩
 rw [← hN]
 clear h hN hR
 go_enter Tryz.func164, Tryz.ntmps164
 go_wp2
 go_loopw [8] (fun i wr => ∃ k : Nat, i = .int .i64 k ∧ k ≤ N ∧ (∀ j, j < k → L.getD j 0 ≠ a) ∧ wr = w) (fun i wr => N - (intOf i).toNat)
 case atStart => exact ⟨0, rfl, Nat.zero_le _, fun j hj => by omega, rfl⟩
 case round =>
  obtain ⟨k, rfl, hk, hno, rfl⟩ := hrel
  have HN : Hid (∀ j, j < k → L.getD j 0 ≠ a) := hno
  clear hno
  rcases Nat.lt_or_ge k N with hlt | hge
  ·have c1 := HS.out.1.at (i := k) (by rw [← HS.out.2.1]; exact hlt)
   obtain ⟨X, hX⟩ : ∃ X, X = L.getD k 0 := ⟨_, rfl⟩
   rw [← hX] at c1
   have HX : Hid (X = L.getD k 0) := hX
   have hw : IntKind.i64.wrap ((k : Int) + 1) = (k : Int) + 1 := by have := HS.out.1.len.2; have := HS.out.2.1; rw [IntKind.wrap_i64]; omega
   clear hX
   by_cases hq : a = X
   ·have HQ : Hid (a = X) := hq
    subst hq
    go_wp2
    go_ret
    refine ⟨?_, rfl⟩
    have e : firstN L a = k := first_is (by rw [← HS.out.2.1]; exact hlt) HX.out.symm HN.out
    rw [HS.out.2.2, e, if_pos (by rw [← HS.out.2.1]; exact hlt)]; rfl
   ·have HQ : Hid (¬ a = X) := hq
    go_wp2
    go_roundw
    case rel =>
     refine ⟨k + 1, by simp, by omega, fun j hj => ?_, (by first | rfl | trivial)⟩
     rcases Nat.lt_or_ge j k with h1 | h1
     ·exact HN.out j h1
     ·obtain rfl : j = k := by omega
      rw [← HX.out]; exact fun e => HQ.out e.symm
    case measure => simp [intOf]; omega
  ·obtain rfl : k = N := by omega
   go_wp2
   go_ret
   refine ⟨?_, rfl⟩
   have e : firstN L a = L.length := first_none (fun j hj => HN.out j (by rw [HS.out.2.1]; exact hj))
   rw [HS.out.2.2, e, if_neg (by omega)]; rfl
def TakeGot (w : World) (p g : Nat) (r : Int) (L : List Int) (e : Ending) (w' : World) : Prop :=
 e = .returned (.tuple #[.int .i64 (takeI L), .bool (takeB L)]) ∧ SegP w' p g r (takeZ L) ∧ Out (fun j => j = g) w w'
theorem gTake_of (p g : Nat) (r : Int) (L : List Int) (w : World) (h : SegP w p g r L) :
  Calls Tryz.prog 107 #[.pointer (some ⟨p, 0, none⟩)] w fun e w' => TakeGot w p g r L e w' := by
 have hix := index_of p g r L 1 w h
 have c0 := h.c0
 by_cases hf : firstN L 1 < L.length
 ·rw [if_pos hf] at hix
  have ht := gTurn_of p g r L (firstN L 1) 1 2 w h (by decide) (by unfold Fits8; omega)
  have hs1 : stZ L (firstN L 1) = 1 := by rw [stZ_nat]; exact first_at hf
  have fin : ∀ e w', TurnGot w p g r L (firstN L 1) 1 2 e w' → e = .returned (.bool true) ∧ TakeGot w p g r L (.returned (.tuple #[.int .i64 (firstN L 1), .bool true])) w' := by
   rintro e w' ⟨rfl, h1, h2⟩
   refine ⟨by rw [decide_eq_true hs1], ?_, ?_, h2⟩
   ·simp [takeI, takeB, hf]
   ·rw [take_turn, if_pos hf]; exact h1
  have HF : Hid (∀ e w', TurnGot w p g r L (firstN L 1) 1 2 e w' → e = .returned (.bool true) ∧ TakeGot w p g r L (.returned (.tuple #[.int .i64 (firstN L 1), .bool true])) w') := fin
  generalize TurnGot w p g r L (firstN L 1) 1 2 = T' at HF ht
  have hlt0 : ¬ ((firstN L 1 : Nat) : Int) < 0 := by omega
  generalize hF : firstN L 1 = F at HF ht hix hlt0
  generalize L.length = N at c0 hix
  clear fin hs1 h hf
  have HI : Hid (Calls Tryz.prog 164 #[.slice (some ⟨g, 0, none⟩) N N, .int .u8 1] w fun e w' => e = .returned (.int .i64 F) ∧ w' = w) := hix
  have HT : Hid (Calls Tryz.prog 105 #[.pointer (some ⟨p, 0, none⟩), .int .i64 F, .int .u8 1, .int .u8 2] w fun e w' => T' e w') := ht
  clear hix ht hF
  go_enter Tryz.func107, Tryz.ntmps107
  go_wp2_with (first
   | (go_at_call 164; refine HI.out.mono ?_; rintro e w' ⟨rfl, rfl⟩)
   | (go_at_call 105; refine HT.out.mono ?_; intro e w2 hx; obtain ⟨rfl, hx2⟩ := HF.out _ _ hx))
  go_ret2
  exact hx2
 ·rw [if_neg hf] at hix
  have fin : TakeGot w p g r L (.returned (.tuple #[.int .i64 0, .bool false])) w := by
   refine ⟨?_, ?_, Out.refl _ _⟩
   ·simp [takeI, takeB, hf]
   ·unfold takeZ; rw [if_neg hf]; exact h
  have HF : Hid (TakeGot w p g r L (.returned (.tuple #[.int .i64 0, .bool false])) w) := fin
  generalize L.length = N at c0 hix
  clear fin h hf
  have HI : Hid (Calls Tryz.prog 164 #[.slice (some ⟨g, 0, none⟩) N N, .int .u8 1] w fun e w' => e = .returned (.int .i64 (-1)) ∧ w' = w) := hix
  clear hix
  go_enter Tryz.func107, Tryz.ntmps107
  go_wp2_with (go_at_call 164; refine HI.out.mono ?_; rintro e w' ⟨rfl, rfl⟩)
  go_ret2
  exact HF.out
theorem Tryz.zero_int : (Tryz.prog.info? 3).map (fun i => (i.zero, i.size, i.bytes)) = some (some (.int .i64 0), 1, 8) := by kernel_rfl
theorem grownBy_refl (w : World) (r : Option Nat) : w.grownBy w r := ⟨rfl, rfl, rfl, Nat.le_refl _, fun _ _ _ => rfl⟩
theorem wpList_append_kept {k : IntKind} {e t : TypeId} {size : Nat} (ht : Tryz.prog.underlying t = some (.slice e)) (hinfo : (Tryz.prog.info? e).map (fun i => (i.zero, i.size, i.bytes)) = some (some (.int k 0), 1, size)) (hsz : size ≤ 8)
  {ops : Array Oper} {rest : List Oper} {o : Oper} {a : Act} {Q : Exit → Act → World → Prop} {w : World} (hgd : o.guard = none) (s x : Operand)
  (ho : o.op = .call { callee := .builtin .append, args := #[s, x], argTypes := #[t, t] }) (base : Nat)
  (a0 : Option Addr) (n0 c0 : Nat) (xs : List Int) (hs : a.eval s = .slice a0 n0 c0) (hown : w.ownsRow base e 1 (.slice a0 n0 c0) n0 (kInts k xs))
  (a1 : Option Addr) (n1 c1 : Nat) (zs : List Int) (hx : a.eval x = .slice a1 n1 c1) (hin : NIn k w a1 n1 zs) (hnil : a1 = none → n1 = 0 ∧ c1 = 0)
  (hle : n0 + n1 ≤ 1000000) (hbase : base ≤ w.heap.size)
  (h : ∀ a' c' w', w'.ownsRow base e 1 (.slice a' (n0 + n1) c') (n0 + n1) (kInts k (xs ++ zs)) → Below base w w' → w.grownBy w' (Value.slice a0 n0 c0).ownBlock → wpList Tryz.prog ops Q rest (a.put o.dst (.slice a' (n0 + n1) c')) w') :
  wpList Tryz.prog ops Q (o :: rest) a w := by
 obtain ⟨i0, hi, hz0, hz1, hz2⟩ := info_parts hinfo
 obtain ⟨hl, hm, hfit, hcell⟩ := hin
 cases a1 with
 | none =>
  obtain ⟨rfl, rfl⟩ := hnil rfl
  have : zs = [] := List.length_eq_zero_iff.1 hl
  subst this
  refine wpList_append_own_none hgd s x t ho base e i0 1 ht hi _ n0 (kInts k xs) hs hown hx ?_
  have := h a0 c0 w (by simpa using hown) (Below.refl _ _) (grownBy_refl _ _)
  simpa using this
 | some ad =>
  refine wpList_append_own w hgd s x t ho base e i0 (.int k 0) 1 size ht hi hz0 hz1 hz2 rfl (by decide) _ n0 (kInts k xs) hs hown ad n1 c1 (kInts k zs) hx (by simp [kInts, hl]) ?_ (kInts_one _ _) (by unfold maxLen; omega) ?_ hbase ?_
  ·intro j u hj
   have hjl : j < n1 := by
    have := (List.getElem?_eq_some_iff.1 hj).1
    rwa [kInts_length, hl] at this
   rcases hcell with hc | ⟨b, off, ha, hc⟩
   ·omega
   ·cases ha
    rw [Addr.add_mid, hc j hjl, ← hj]
    simp [kInts, List.getD, hl, hjl]
  ·have := Nat.mul_le_mul hle hsz
   omega
  ·intro v' w' hown' hgrow _
   have hb : Below base w w' := (Below.refl base w).grown hgrow hbase (fun k hk => (hown.lt k hk).1)
   have hcat : kInts k xs ++ kInts k zs = kInts k (xs ++ zs) := by simp [kInts]
   rw [hcat] at hown'
   obtain ⟨a', c', rfl⟩ : ∃ a' c', v' = .slice a' (n0 + n1) c' := by
    rcases hown'.2 with ⟨hv, hn⟩ | ⟨g, cap, cur, hv, _⟩
    ·exact ⟨none, 0, by rw [hv, hn]⟩
    ·exact ⟨_, _, hv⟩
   exact h a' c' w' hown' hb hgrow
theorem Blk.grownR {w w' : World} {q : Nat} {L : List Value} {t : TypeId} {row : Option Nat} (h : Blk w q L t) (hg : w.grownBy w' row) (hne : row ≠ some q) : Blk w' q L t := by
 unfold Blk; rw [hg.block q h.lt (fun e => hne e.symm)]; exact h
theorem own_not {w : World} {B : Nat} {e : TypeId} {s n : Nat} {v : Value} {xs : List Value} {q : Nat} {L : List Value} {t : TypeId} (ho : w.ownsRow B e s v n xs) (hb : Blk w q L t) (ht : t ≠ e) : v.ownBlock ≠ some q := fun h => by
 obtain ⟨cur, hc⟩ := own_at_block ho h
 have e2 : some (Obj.cells L.toArray t (0, 0)) = some (Obj.cells cur e (0, 0)) := (hb : w.heap[q]? = _).symm.trans hc
 simp only [Option.some.injEq, Obj.cells.injEq] at e2
 exact ht e2.2.1
def F63 (z : Int) : Prop := -9223372036854775808 ≤ z ∧ z < 9223372036854775808
theorem wfI {z : Int} (h : F63 z) : (Lit.int .i64 z).wf = true := by
 unfold F63 at h
 simp [Lit.wf, IntKind.min, IntKind.max, IntKind.signed, IntKind.bits]
 omega
/-- A variable that holds a row of the call's own. -/
def LS (B q : Nat) (W : World) (xs : List Int) : Prop :=
 ∃ A c, Blk W q [.slice A xs.length c] 38 ∧ W.ownsRow B 3 1 (.slice A xs.length c) xs.length (kInts .i64 xs) ∧ B ≤ q ∧ B ≤ W.heap.size
theorem gListC_of (B q i : Nat) (xs : List Int) (w : World) (h : LS B q w xs) (hl : xs.length ≤ 300) (hi : i ≤ 300) :
  Calls Tryz.prog 163 #[.int .i64 i, .pointer (some ⟨q, 0, none⟩)] w fun e w' => e = .returned (.tuple #[]) ∧ LS B q w' (xs ++ [(i : Int)]) ∧ Below B w w' := by
 obtain ⟨A, c, hq, ho, hB, hs⟩ := h
 have c0 : w.cell? ⟨q, 0, none⟩ = some (.slice A xs.length c) := hq.cell 0
 generalize hn : xs.length = n at *
 have HH : Hid (Blk w q [.slice A n c] 38 ∧ w.ownsRow B 3 1 (.slice A n c) n (kInts .i64 xs) ∧ B ≤ q ∧ B ≤ w.heap.size ∧ n ≤ 300 ∧ i ≤ 300 ∧ xs.length = n) := ⟨hq, ho, hB, hs, hl, hi, hn⟩
 clear hq ho hB hs hl hi hn
 go_enter Tryz.func163, Tryz.ntmps163
 go_wp2_with (at_builtin; refine wpList_append_kept (k := .i64) Tryz.underlying38 Tryz.zero_int (by omega) rfl (.tmp 3) (.tmp 5) rfl B A n c _ rfl (HH.out.2.1.alloc _) (some ⟨w.heap.size, 0, none⟩) 1 1 [(i : Int)] rfl (new_nin rfl rfl rfl (fun z hz => by simp at hz; subst hz; exact wfI (by have := HH.out.2.2.2.2.2.1; unfold F63; omega)) (by unfold maxLen; omega)) (fun h => by cases h) (by have := HH.out.2.2.2.2.1; omega) (by have := HH.out.2.2.2.1; simp; omega) ?_; intro a2 c2 w2 ow2 bl2 gr2; have hb2 : Blk w2 q [.slice A n c] 38 := (HH.out.1.alloc _).grownR gr2 (own_not HH.out.2.1 HH.out.1 (by decide)); have c2q : w2.cell? ⟨q, 0, none⟩ = some (.slice A n c) := hb2.cell 0; have z2q := hb2.frozen 0; have HB : Hid (Blk w2 q [.slice A n c] 38 ∧ w2.ownsRow B 3 1 (.slice a2 (n + 1) c2) (n + 1) (kInts .i64 (xs ++ [(i : Int)])) ∧ Below B (w.alloc (.cells #[.int .i64 i] 3)) w2) := ⟨hb2, ow2, bl2⟩; clear hb2 ow2 bl2 gr2)
 first | go_end0 | refine bodyPost_ret (results_none rfl _ _ _) rfl ?_
 have hl : (xs ++ [(i : Int)]).length = n + 1 := by simp [HH.out.2.2.2.2.2.2]
 refine ⟨rfl, ⟨a2, c2, ?_, ?_, HH.out.2.2.1, ?_⟩, ?_⟩
 ·rw [hl]; exact HB.out.1.set 0 _
 ·rw [hl]; exact (out_one w2 q 0 _).own HB.out.2.1 (fun g hg e => own_not HB.out.2.1 HB.out.1 (by decide) (by rw [← e]; exact hg))
 ·have := HB.out.2.2.size; have := HH.out.2.2.2.1; simp [World.setCell] at *; omega
 ·exact ((((Below.refl B w).alloc HH.out.2.2.2.1 _).trans HB.out.2.2).setCell (by exact HH.out.2.2.1) _)
end Go.Proofs.YtcdnjeiamihhbabGreat
