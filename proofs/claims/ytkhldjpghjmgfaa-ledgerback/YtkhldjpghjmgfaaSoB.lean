/- A row of 32-bit numbers of one's own that is sorted in place. -/
import Derived.Test.YtkhldjpghjmgfaaLgRow
import Derived.Test.YtkhldjpghjmgfaaLgMap
import Derived.Test.YtkhldjpghjmgfaaLgP
import Derived.Test.YtkhldjpghjmgfaaLgT
import Derived.Deep.RegionHeld3
import Derived.BigQuiet
import Derived.Sort.AssemblyPlain
import Derived.Sort.Row
namespace Go.Proofs.Ytkhldjpghjmgfaa
open Go.RowKit Go.Sort
set_option linter.unusedVariables false
set_option maxRecDepth 4000

def wC (x : Int) : List Value := [.int .u32 x]
theorem wC_length (x : Int) : (wC x).length = 1 := rfl
theorem wC_one (x : Int) : ∀ v ∈ wC x, v.oneCell' = true := by
  intro v hv
  simp only [wC, List.mem_cons, List.not_mem_nil, or_false] at hv
  subst hv; rfl
/-- Block g holds the numbers d, n of them; all else is as in W, but for new blocks. -/
structure SR (W w : World) (B g n cap : Nat) (d : Array Int) : Prop where
  own : w.ownsRow B 33 1 (.slice (some ⟨g, 0, none⟩) n cap) n (rowC wC d.toList)
  out : Out (InB g) W w
  lt : g < W.heap.size
section
variable {W w w' : World} {B g n cap : Nat} {d : Array Int}
theorem SR.size (h : SR W w B g n cap d) : d.size = n := by
  have := (own_row wC_length (by decide) h.own).1
  simpa using this
theorem SR.cell (h : SR W w B g n cap d) {i : Nat} (hi : i < n) : w.cell? ⟨g, i, none⟩ = some (.int .u32 d[i]!) := by
  obtain ⟨h1, h2⟩ := own_row wC_length (by decide) h.own
  obtain ⟨g', hg, h3⟩ := h2.resolve_left (by omega)
  cases hg
  have hs := h.size
  have := h3 i d[i]! (by rw [Array.getElem?_toList, Array.getElem?_eq_getElem (by omega), getElem!_pos d i (by omega)]) 0 _ rfl
  rw [Nat.mul_one, Nat.add_zero] at this
  exact this
theorem SR.frozen (h : SR W w B g n cap d) (i : Nat) : w.frozen? ⟨g, i, none⟩ = false := by
  rcases h.own.2 with ⟨hv, _⟩ | ⟨g', cap', cur, hv, _, hh, _⟩
  · cases hv
  · cases hv
    simp [World.frozen?, hh]
theorem SR.drewN (h : SR W w B g n cap d) (j : Nat) : SR W (w.drewN j) B g n cap d := ⟨h.own, h.out.trans (drewN_out (InB g) w j) (fun _ e => .inl e), h.lt⟩
theorem SR.drew (h : SR W w B g n cap d) : SR W w.drew B g n cap d := h.drewN 1
theorem SR.same (h : SR W w B g n cap d) (e1 : w'.heap = w.heap) (e2 : w'.os = w.os) (e3 : w'.tape = w.tape) (e4 : w'.output = w.output) : SR W w' B g n cap d := by
  refine ⟨?_, ⟨e2.trans h.out.os, e3.trans h.out.tape, e4.trans h.out.output, by rw [e1]; exact h.out.size, fun k hk hn => by rw [e1]; exact h.out.block k hk hn⟩, h.lt⟩
  obtain ⟨h1, h2⟩ := h.own
  refine ⟨h1, ?_⟩
  rcases h2 with h2 | ⟨g', c, cur, r1, r2, r3, r4⟩
  · exact .inl h2
  · exact .inr ⟨g', c, cur, r1, r2, by rw [e1]; exact r3, r4⟩
theorem SR.glt (h : SR W w B g n cap d) : g < w.heap.size := Nat.lt_of_lt_of_le h.lt h.out.size
theorem SR.below (h : SR W w B g n cap d) (hb : Below w.heap.size w w') : SR W w' B g n cap d :=
  ⟨(below_out Non hb).own h.own (fun _ _ e => e), h.out.trans (below_out Non hb) (fun _ e => e.elim), h.lt⟩
theorem SR.alloc (h : SR W w B g n cap d) (o : Obj) : SR W (w.alloc o) B g n cap d := h.below ((Below.refl _ _).alloc (Nat.le_refl _) _)
theorem row_set (d : Array Int) (i : Nat) (x : Int) : (rowC wC d.toList).set i (.int .u32 x) = rowC wC (d.setIfInBounds i x).toList := by
  have key : ∀ l : List Int, rowC wC l = l.map (fun x => Value.int .u32 x) := by
    intro l
    unfold rowC wC
    induction l with
    | nil => rfl
    | cons y t ih => rw [List.flatMap_cons, ih]; rfl
  rw [key, key, Array.toList_setIfInBounds, List.map_set]
theorem SR.set (h : SR W w B g n cap d) {i : Nat} (hi : i < n) (x : Int) : SR W (w.setCell ⟨g, i, none⟩ (.int .u32 x)) B g n cap (d.setIfInBounds i x) :=
  ⟨own_put wC_length h.own rfl _ (row_set d i x) (by omega), h.out.setCell (p := ⟨g, i, none⟩) (.inl rfl) _, h.lt⟩
theorem SR.setO (h : SR W w B g n cap d) {q : Nat} (hq : W.heap.size ≤ q) (o : Nat) (v : Value) : SR W (w.setCell ⟨q, o, none⟩ v) B g n cap d := by
  refine ⟨?_, h.out.setCell (p := ⟨q, o, none⟩) (.inr hq) _, h.lt⟩
  exact (Out.setCell (O := InB q) (Out.refl _ w) (p := ⟨q, o, none⟩) (.inl rfl) v).own h.own (fun g' hg' => by
    have e : (Value.slice (some ⟨g, 0, none⟩) n cap).ownBlock = some g := rfl
    rw [e] at hg'; cases hg'
    have := h.lt
    intro e; unfold InB at e; omega)
theorem SR.swp (h : SR W w B g n cap d) {i j : Nat} (hi : i < n) (hj : j < n) : SR W ((w.setCell ⟨g, i, none⟩ (.int .u32 d[j]!)).setCell ⟨g, j, none⟩ (.int .u32 d[i]!)) B g n cap (swp d i j) := (h.set hi _).set hj _
/-- What an exchange of two numbers reads, writes, leaves. -/
theorem SR.swf (h : SR W w B g n cap d) {i j : Nat} (hi : i < n) (hj : j < n) {x y : Int} (hx : d[i]! = x) (hy : d[j]! = y) :
    (w.cell? ⟨g, i, none⟩ = some (.int .u32 x) ∧ w.cell? ⟨g, j, none⟩ = some (.int .u32 y) ∧ w.frozen? ⟨g, i, none⟩ = false ∧ w.frozen? ⟨g, j, none⟩ = false) ∧
    (w.setCell ⟨g, i, none⟩ (.int .u32 y)).cell? ⟨g, j, none⟩ = some (.int .u32 y) ∧ (w.setCell ⟨g, i, none⟩ (.int .u32 y)).frozen? ⟨g, j, none⟩ = false ∧
    SR W ((w.setCell ⟨g, i, none⟩ (.int .u32 y)).setCell ⟨g, j, none⟩ (.int .u32 x)) B g n cap (Go.Sort.swp d i j) := by
  have hs := h.size
  have h1 := h.set hi y
  have e : (d.setIfInBounds i y)[j]! = y := by
    by_cases he : j = i
    · subst he; exact getElem!_set_same d j y (by omega)
    · rw [getElem!_set_other d i j y he]; exact hy
  have c := h1.cell hj
  rw [e] at c
  have hp := h.swp hi hj
  rw [hx, hy] at hp
  exact ⟨⟨by rw [← hx]; exact h.cell hi, by rw [← hy]; exact h.cell hj, h.frozen i, h.frozen j⟩, c, h1.frozen j, hp⟩
end
theorem less_of (x y : Int) (w : World) : Calls Try.prog 50 #[.int .u32 x, .int .u32 y] w fun e w' => e = .returned (.bool (ltInt x y)) ∧ w' = w := by
  have c1 : ∀ z : Int, ∀ V : World, Calls Try.prog 60 #[.int .u32 z] V fun e w' => e = .returned (.bool false) ∧ w' = V := fun z V => by
    go_enter Try.func60, Try.ntmps60
    go_wp2
    go_ret
    exact ⟨by simp, rfl⟩
  go_enter Try.func50, Try.ntmps50
  go_wp2_with (go_at_call 60; refine (c1 _ _).mono ?_; rintro e w' ⟨rfl, rfl⟩)
  go_ret
  exact ⟨rfl, rfl⟩
end Go.Proofs.Ytkhldjpghjmgfaa
