/- What one call of does does: each device answers as the other one. -/
import Derived.Test.YtlkpglppkpalgaaZTwo
namespace Go.Proofs.Ytlkpglppkpalgaa
open Go.RowKit Go.Shelf
set_option linter.unusedVariables false
set_option maxRecDepth 4000

theorem rdE_small (zs : List Zn) (zn bn : Int) : 0 ≤ rdE zs zn bn ∧ rdE zs zn bn ≤ 102 := by unfold rdE; split <;> (try split) <;> omega
theorem appE_small (s : Sh) (zs : List Zn) (zn : Int) (D : List Int) : 0 ≤ appE s zs zn D ∧ appE s zs zn D ≤ 101 := by unfold appE; split <;> (try split) <;> omega
theorem resetE_small (zs : List Zn) (zn : Int) : 0 ≤ resetE zs zn ∧ resetE zs zn ≤ 100 := by unfold resetE; split <;> omega
def opL (o : Opn) (A : Option Addr) (L C : Nat) (B : Option Addr) (M E : Nat) : List Value := [.int .u8 o.k, .int .i64 o.z, .int .i64 o.n, .slice A L C, .slice B M E]
structure DoK (s : Sh) (o : Opn) (A : Option Addr) (L C : Nat) (B : Option Addr) (M E : Nat) (q : Nat) (V : World) : Prop where
  s2 : V.cell? ⟨q, 2, none⟩ = some (.int .i64 s.b)
  c0 : V.cell? ⟨q + 1, 0, none⟩ = some (.int .u8 o.k)
  c1 : V.cell? ⟨q + 1, 1, none⟩ = some (.int .i64 o.z)
  c2 : V.cell? ⟨q + 1, 2, none⟩ = some (.int .i64 o.n)
  c3 : V.cell? ⟨q + 1, 3, none⟩ = some (.slice A L C)
  c4 : V.cell? ⟨q + 1, 4, none⟩ = some (.slice B M E)

theorem out_drew {O : Nat → Prop} {W V : World} (h : Out O W.drew V) : Out O W V := ⟨h.os, h.tape, h.output, h.size, h.block⟩
theorem ls_low {w : World} {B : Option Addr} {M : Nat} {ls : List (Int × Int)} (h : LsIn w B M ls) (hM : M ≠ 0) : ∀ ad, B = some ad → ad.block < w.heap.size := by
  intro ad e
  obtain ⟨b, off, e', hc⟩ := h.2.2.2.resolve_left hM
  rw [e] at e'; cases e'
  exact old_block (hc 0 (ls[0]'(by have := h.1; omega)) (by simp)).1
/-- The bytes of a list of the caller's own, whatever they are. -/
def Own8 (oa : Option Addr) (ol : Nat) (V : World) : Prop := ∀ j, j < ol → ∃ g y, oa = some ⟨g, 0, none⟩ ∧ V.cell? ⟨g, j, none⟩ = some (.int .u8 y) ∧ V.frozen? ⟨g, j, none⟩ = false
theorem own8_of {O : Nat → Prop} {V : World} {oa : Option Addr} {ol oc : Nat} {D : List Int} (h : BkAt O V (.slice oa ol oc) D) : Own8 oa ol V := by
  intro j hj
  have hl := h.bin.2.2
  rcases h.1.2 with ⟨hv, hn⟩ | ⟨g, cap, cur, hv, hB, hh, hnc, hcm, hcs, htk⟩
  · omega
  · cases hv
    have h1 := h.1
    have hc := h1.cellAt j (by omega)
    refine ⟨g, D.getD j 0, rfl, ?_, h1.frozenAt j⟩
    rw [hc]
    simp [u8s, List.getD, show j < D.length by omega]
theorem Own8.set {V : World} {oa : Option Addr} {ol j g : Nat} {y : Int} (h : Own8 oa ol V) (hg : oa = some ⟨g, 0, none⟩) (hj : j < ol) : Own8 oa ol (V.setCell ⟨g, j, none⟩ (.int .u8 y)) := by
  intro i hi
  obtain ⟨g', x, e, h1, h2⟩ := h i hi
  rw [hg] at e; cases e
  by_cases e : i = j
  · subst e
    exact ⟨g, y, hg, World.cell?_setCell_same' _ _ _ (by rw [h1]; rfl), by rw [World.frozen?_setCell]; exact h2⟩
  · exact ⟨g, x, hg, by rw [World.cell?_setCell_other _ _ _ _ (by intro e'; injection e' with _ e'; exact e e'.symm)]; exact h1, by rw [World.frozen?_setCell]; exact h2⟩
theorem Own8.out {V V' : World} {S : Nat → Prop} {oa : Option Addr} {ol : Nat} (h : Own8 oa ol V) (ho : Out S V V') (hS : ∀ ad, oa = some ad → ¬ S ad.block) : Own8 oa ol V' := by
  intro j hj
  obtain ⟨g, y, e, h1, h2⟩ := h j hj
  refine ⟨g, y, e, ho.cell h1 (hS ⟨g, 0, none⟩ e), ?_⟩
  rw [World.frozen?_of_block (w := V) (ho.block g (old_block h1) (hS ⟨g, 0, none⟩ e))]; exact h2

/-- What is appended, where it lies. -/
def DatIn (O1 O2 : Nat → Prop) (Wb : World) (ba : Option Addr) (bl : Nat) (D : List Int) : Prop := bl ≤ 4096 ∧ D.length = bl ∧ ∀ V, Out (fun x => O1 x ∨ O2 x ∨ Wb.heap.size ≤ x) Wb V → BIn V ba bl D
theorem dat_fill {w W : World} {O1 O2 : Nat → Prop} {p r : Nat} {s : Sh} {z1 z2 : List Zn} {A : Option Addr} {L : Nat} {D : List Int} (T : TwoO w O1 O2 W p r s z1 z2) (h : BIn w A L D) (hL : L ≤ 4096) : DatIn O1 O2 W A L D :=
  ⟨hL, h.1, fun V hV => h.below (T.bel.trans (hV.below T.bel.size (fun x hx => by rcases hx with hx | hx | hx; exact (T.o1 x hx).1; exact (T.o2 x hx).1; have := T.bel.size; omega)))⟩
theorem dat_bk {W V : World} {O1 O2 : Nat → Prop} {qb S : Nat} {D : List Int} (h : BkAt (fun x => W.heap.size ≤ x) V (.slice (some ⟨qb, 0, none⟩) S S) D) (h1 : ∀ x, O1 x → x < W.heap.size) (h2 : ∀ x, O2 x → x < W.heap.size) (hq : W.heap.size ≤ qb) (hS : S ≤ 4096) : DatIn O1 O2 V (some ⟨qb, 0, none⟩) S D := by
  refine ⟨hS, h.bin.2.2.symm, fun V' hV => ?_⟩
  have hlt := (h.1.lt qb rfl).2
  have : BkAt (fun x => W.heap.size ≤ x) V' (.slice (some ⟨qb, 0, none⟩) S S) D := ⟨hV.own h.1 (fun g e hx => by cases e; rcases hx with hx | hx | hx; (have := h1 qb hx; omega); (have := h2 qb hx; omega); (have h9 : V.heap.size ≤ qb := hx; omega)), h.2⟩
  exact this.bin.1

end Go.Proofs.Ytlkpglppkpalgaa
