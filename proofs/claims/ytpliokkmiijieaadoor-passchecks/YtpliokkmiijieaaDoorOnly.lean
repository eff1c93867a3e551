/- 'Only g w w'': of what was there in w, w' has turned block g alone. -/
import Derived.Test.YtpliokkmiijieaaDoorMixed
namespace Go.Proofs.YtpliokkmiijieaaDoor
open Go.RowKit
set_option linter.unusedVariables false
set_option maxRecDepth 4000

structure Only (g : Nat) (w w' : World) : Prop where
  os : w'.os = w.os
  tape : w'.tape = w.tape
  output : w'.output = w.output
  size : w.heap.size ≤ w'.heap.size
  block : ∀ k, k < w.heap.size → k ≠ g → w'.heap[k]? = w.heap[k]?

theorem Only.refl (g : Nat) (w : World) : Only g w w := ⟨rfl, rfl, rfl, Nat.le_refl _, fun _ _ _ => rfl⟩
theorem Only.trans {g : Nat} {a b c : World} (h : Only g a b) (k : Only g b c) : Only g a c :=
  ⟨k.os.trans h.os, k.tape.trans h.tape, k.output.trans h.output, Nat.le_trans h.size k.size, fun i hi hg => (k.block i (Nat.lt_of_lt_of_le hi h.size) hg).trans (h.block i hi hg)⟩
theorem Only.drew {g : Nat} {a w : World} (h : Only g a w) : Only g a w.drew := ⟨h.os, h.tape, h.output, h.size, h.block⟩
theorem Only.drewN {g : Nat} {a w : World} (h : Only g a w) (n : Nat) : Only g a (w.drewN n) := ⟨h.os, h.tape, h.output, h.size, h.block⟩
theorem Only.of_below {g : Nat} {w w' : World} (h : Below w.heap.size w w') : Only g w w' := ⟨h.os, h.tape, h.output, h.size, fun k hk _ => h.block k hk⟩
theorem Only.alloc {g : Nat} {a w : World} (h : Only g a w) (o : Obj) : Only g a (w.alloc o) := h.trans (Only.of_below ((Below.refl _ _).alloc (Nat.le_refl _) o))
theorem Only.setCell {g : Nat} {a w : World} (h : Only g a w) (i : Nat) (v : Value) : Only g a (w.setCell ⟨g, i, none⟩ v) :=
  h.trans ⟨rfl, rfl, rfl, by simp [World.setCell], fun k hk hg => Below.heap_setCell _ _ _ _ (by simpa using hg)⟩
theorem Only.setCells {g : Nat} {a : World} : ∀ (vs : List Value) (o : Nat) (w : World), Only g a w → Only g a (w.setCells g o vs)
  | [], _, _, h => h
  | v :: r, o, w, h => Only.setCells r (o + 1) _ (h.setCell o v)
theorem Only.below {g B : Nat} {w w' : World} (h : Only g w w') (hg : B ≤ g) (hB : B ≤ w.heap.size) : Below B w w' :=
  ⟨h.os, h.tape, h.output, h.size, fun k hk => h.block k (by omega) (by omega)⟩
theorem Blk.only {w w' : World} {g k : Nat} {L : List Value} {t : TypeId} (h : Blk w k L t) (ho : Only g w w') (hne : k ≠ g) : Blk w' k L t := by
  unfold Blk; rw [ho.block k h.lt hne]; exact h
theorem Only.cell {g : Nat} {w w' : World} (h : Only g w w') {a : Addr} {v : Value} (hc : w.cell? a = some v) (hne : a.block ≠ g) : w'.cell? a = some v := by
  rw [World.cell?_of_block (w := w) (h.block a.block (old_block hc) hne)]; exact hc
theorem KIn.only {g : Nat} {w w' : World} (h : KIn w) (ho : Only g w w') (hg : 1 ≠ g) : KIn w' := fun i hi => ho.cell (h i hi) hg

/-! ### The bytes of a number, the highest first -/
def bigI (n : Nat) (v : Int) : List Int := (List.range n).map fun i => v / 2 ^ (8 * (n - 1 - i)) % 256
theorem bigI_length (n : Nat) (v : Int) : (bigI n v).length = n := by simp [bigI]
theorem bigI_getD {n i : Nat} (v : Int) (h : i < n) : (bigI n v).getD i 0 = v / 2 ^ (8 * (n - 1 - i)) % 256 := by simp [bigI, List.getD, h]
theorem bigI_fits (n : Nat) (v : Int) : ∀ z ∈ bigI n v, Fits8 z := by
  intro z hz
  simp only [bigI, List.mem_map] at hz
  obtain ⟨i, _, rfl⟩ := hz
  exact ⟨by omega, by omega⟩
theorem splice_get {α : Type} (L vs : List α) (o i : Nat) (hl : o + vs.length ≤ L.length) : (splice L o vs)[i]? = if i < o then L[i]? else if i < o + vs.length then vs[i - o]? else L[i]? := by
  have ht : (L.take o).length = o := by simp; omega
  unfold splice
  by_cases h1 : i < o
  · rw [if_pos h1, List.getElem?_append_left (by omega), List.getElem?_take, if_pos h1]
  · rw [if_neg h1, List.getElem?_append_right (by omega), ht]
    by_cases h2 : i < o + vs.length
    · rw [if_pos h2, List.getElem?_append_left (by omega)]
    · rw [if_neg h2, List.getElem?_append_right (by omega), List.getElem?_drop]
      congr 1; omega
theorem splice_take {α : Type} (L vs : List α) (o k : Nat) (hk : k < vs.length) (hl : o + vs.length ≤ L.length) : splice L o (vs.take (k + 1)) = (splice L o (vs.take k)).set (o + k) vs[k] := by
  have e1 : (vs.take (k + 1)).length = k + 1 := by simp; omega
  have e2 : (vs.take k).length = k := by simp; omega
  have e3 : (splice L o (vs.take k)).length = L.length := length_splice _ _ _ (by omega)
  apply List.ext_getElem?
  intro i
  rw [List.getElem?_set, e3, splice_get _ _ _ _ (by omega), splice_get _ _ _ _ (by omega), e1, e2]
  by_cases h : o + k = i
  · subst h
    rw [if_neg (by omega), if_pos (by omega), if_pos rfl, if_pos (by omega), List.getElem?_take, if_pos (by omega), Nat.add_sub_cancel_left, List.getElem?_eq_getElem hk]
  · rw [if_neg h]
    by_cases h1 : i < o
    · rw [if_pos h1, if_pos h1]
    · rw [if_neg h1, if_neg h1]
      by_cases h2 : i < o + k
      · rw [if_pos (by omega), if_pos h2, List.getElem?_take, if_pos (by omega), List.getElem?_take, if_pos (by omega)]
      · rw [if_neg (by omega), if_neg h2]

theorem big_next {w wr : World} {g off n k : Nat} {v x : Int} {L : List Int} {t : TypeId} (hL : off + n ≤ L.length) (hk : k < n) (b0 : Blk wr g (u8s (splice L off ((bigI n v).take k))) t) (ho : Only g w wr) (hx : x = v / 2 ^ (8 * (n - 1 - k)) % 256) :
    Blk (wr.setCell ⟨g, off + k, none⟩ (.int .u8 x)) g (u8s (splice L off ((bigI n v).take (k + 1)))) t ∧ Only g w (wr.setCell ⟨g, off + k, none⟩ (.int .u8 x)) := by
  refine ⟨?_, ho.setCell _ _⟩
  have hl : k < (bigI n v).length := by rw [bigI_length]; exact hk
  have := b0.set (off + k) (.int .u8 x)
  rw [splice_take L (bigI n v) off k hl (by rw [bigI_length]; exact hL)]
  have e : (bigI n v)[k] = x := by
    have := bigI_getD v hk
    simp only [List.getD, List.getElem?_eq_getElem hl, Option.getD_some] at this
    rw [this, hx]
  rw [e]
  simpa [u8s, List.map_set] using this

set_option maxHeartbeats 1000000 in
theorem putBig_of (g off n c : Nat) (v : Int) (L : List Int) (t : TypeId) (w : World) (hn : n ≤ 8) (hL : off + n ≤ L.length) (hb : Blk w g (u8s L) t) (h0 : 0 ≤ v) (h1 : v < 18446744073709551616) :
    Calls Tryd.prog 56 #[.slice (some ⟨g, off, none⟩) n c, .int .u64 v] w fun en w' =>
      en = .returned (.tuple #[]) ∧ Blk w' g (u8s (splice L off (bigI n v))) t ∧ Only g w w' := by
  go_enter Tryd.func56, Tryd.ntmps56
  go_wp2
  go_loopw [7] (fun i wr => ∃ k : Nat, k ≤ n ∧ i = .int .i64 k ∧ Blk wr g (u8s (splice L off ((bigI n v).take k))) t ∧ Only g w wr)
    (fun i _ => n - (intOf i).toNat)
  case atStart => exact ⟨0, by omega, rfl, by simpa [splice] using hb, Only.refl _ _⟩
  case round =>
    obtain ⟨k, hk, rfl, b0, ho⟩ := hrel
    by_cases hlt : k < n
    · have hlt' : (k : Int) < n := by omega
      have hc := byteAt b0 (off + k) (by simp [splice, bigI_length]; omega)
      have hz := b0.frozen (off + k)
      go_wp2
      go_roundw
      case rel => exact ⟨k + 1, by omega, by go_num, big_next hL hlt b0 ho rfl⟩
      case measure => simp [intOf]; omega
    · have hge : (n : Int) ≤ k := by omega
      have B : Hid (Blk wr g (u8s (splice L off (bigI n v))) t) := by
        have : (bigI n v).take k = bigI n v := List.take_of_length_le (by rw [bigI_length]; omega)
        rw [this] at b0; exact b0
      go_wp2
      go_end0
      exact ⟨rfl, B.out, ho⟩
end Go.Proofs.YtpliokkmiijieaaDoor
