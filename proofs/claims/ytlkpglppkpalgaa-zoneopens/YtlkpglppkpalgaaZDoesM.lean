/- Two new devices; a row of calls on both. -/
import Derived.Test.YtlkpglppkpalgaaZDoesL
namespace Go.Proofs.Ytlkpglppkpalgaa
open Go.RowKit Go.Shelf
set_option linter.unusedVariables false
set_option maxRecDepth 4000

theorem two_new {W w5 w6 : World} {p r : Nat} {s : Sh} {zs : List Zn} (b5 : Below W.heap.size W w5) (b6 : Below w5.heap.size w5 w6) (hd : Dv 69 (fun x => W.heap.size ≤ x) w5 p s zs) (hr : Dv 71 (fun x => w5.heap.size ≤ x) w6 r s zs) : Two W w6 p r s zs zs :=
  ⟨fun x => W.heap.size ≤ x ∧ x < w5.heap.size, fun x => w5.heap.size ≤ x ∧ x < w6.heap.size,
    dv_under (dv_mono hd (fun x h hx => ⟨h, hx⟩)) b6, dv_mono hr (fun x h hx => ⟨h, hx⟩), fun x h => ⟨h.1, Nat.lt_of_lt_of_le h.2 b6.size⟩, fun x h => ⟨Nat.le_trans b5.size h.1, h.2⟩, fun x h1 h2 => by omega, b5.trans (b6.mono b5.size)⟩
/-- What a row of calls comes to, after so many. -/
def goZ (s : Sh) (zs : List Zn) (os : List Opn) (i : Nat) : List Zn := (os.take i).foldl (doZ s) zs
theorem goZ_next {s : Sh} {zs : List Zn} {os : List Opn} {i : Nat} {o : Opn} (h : os[i]? = some o) : goZ s zs os (i + 1) = doZ s (goZ s zs os i) o := by
  unfold goZ
  have : os.take (i + 1) = os.take i ++ [o] := by rw [List.take_add_one, h]; rfl
  rw [this, List.foldl_append]; rfl
theorem Wf.go {s : Sh} {zs : List Zn} (h : Wf s zs) (os : List Opn) (i : Nat) : Wf s (goZ s zs os i) := by
  unfold goZ
  generalize os.take i = l
  induction l generalizing zs with
  | nil => exact h
  | cons o l ih => exact ih (h.does o)
theorem zs_slice {O : Nat → Prop} {W : World} {v : Value} {zs : List Zn} (h : ZsAt O W v zs) : ∃ a n c, v = .slice a n c := by
  obtain ⟨vs, h1, _⟩ := h
  obtain ⟨a, c, e⟩ := own_slice h1
  exact ⟨a, _, c, e⟩
/-- What a struct of the law's is in memory: the shape's box and the i-th call. -/
def OpK (s : Sh) (q b k : Nat) (v0 v1 v2 v3 v4 : Value) (V : World) : Prop :=
  (V.cell? ⟨q, 0, none⟩ = some (.int .i64 s.z) ∧ V.cell? ⟨q, 1, none⟩ = some (.int .i64 s.zb) ∧ V.cell? ⟨q, 2, none⟩ = some (.int .i64 s.b) ∧ V.cell? ⟨q, 3, none⟩ = some (.int .i64 s.r)) ∧
  V.cell? ⟨b, k, none⟩ = some v0 ∧ V.cell? ⟨b, k + 1, none⟩ = some v1 ∧ V.cell? ⟨b, k + 2, none⟩ = some v2 ∧ V.cell? ⟨b, k + 3, none⟩ = some v3 ∧ V.cell? ⟨b, k + 4, none⟩ = some v4
theorem OpK.below {s : Sh} {q b k : Nat} {v0 v1 v2 v3 v4 : Value} {V V' : World} (h : OpK s q b k v0 v1 v2 v3 v4 V) (hb : Below V.heap.size V V') : OpK s q b k v0 v1 v2 v3 v4 V' := by
  obtain ⟨⟨a0, a1, a2, a3⟩, c0, c1, c2, c3, c4⟩ := h
  exact ⟨⟨(hb.cell (old_block a0)).trans a0, (hb.cell (old_block a1)).trans a1, (hb.cell (old_block a2)).trans a2, (hb.cell (old_block a3)).trans a3⟩, (hb.cell (old_block c0)).trans c0, (hb.cell (old_block c1)).trans c1, (hb.cell (old_block c2)).trans c2, (hb.cell (old_block c3)).trans c3, (hb.cell (old_block c4)).trans c4⟩
theorem Two.bel {w W : World} {p r : Nat} {s : Sh} {z1 z2 : List Zn} (h : Two w W p r s z1 z2) : Below w.heap.size w W := by obtain ⟨_, _, h⟩ := h; exact h.bel
end Go.Proofs.Ytlkpglppkpalgaa
