/- A block of memory that is known whole: 'Blk w g L t': block g holds the cells L, none of them frozen. What a store, a new block, a draw and a call that leaves it alone do to it. -/
import Derived.WalkKit
import Derived.Below
import Derived.WalkSmall
import Derived.Deep.MidRow
import Derived.Deep.Upon
import Derived.Laws.CopyOwn
namespace Go.Proofs.Ythmhphjblglcoaa
open Go.RowKit
set_option linter.unusedVariables false
set_option maxRecDepth 4000

def Blk (w : World) (g : Nat) (L : List Value) (t : TypeId) : Prop := w.heap[g]? = some (.cells L.toArray t (0, 0))

theorem Blk.lt {w : World} {g : Nat} {L : List Value} {t : TypeId} (h : Blk w g L t) : g < w.heap.size := (Array.getElem?_eq_some_iff.1 h).1
theorem Blk.cell {w : World} {g : Nat} {L : List Value} {t : TypeId} (h : Blk w g L t) (i : Nat) : w.cell? ⟨g, i, none⟩ = L[i]? := by
  rw [cell_of_row w g i L.toArray t (0, 0) h]; simp
theorem Blk.frozen {w : World} {g : Nat} {L : List Value} {t : TypeId} (h : Blk w g L t) (i : Nat) : w.frozen? ⟨g, i, none⟩ = false := by
  have h' : w.heap[g]? = some (.cells L.toArray t (0, 0)) := h
  simp [World.frozen?, h']
theorem Blk.drew {w : World} {g : Nat} {L : List Value} {t : TypeId} (h : Blk w g L t) : Blk w.drew g L t := h
theorem Blk.drewN {w : World} {g : Nat} {L : List Value} {t : TypeId} (h : Blk w g L t) (n : Nat) : Blk (w.drewN n) g L t := h
theorem Blk.alloc {w : World} {g : Nat} {L : List Value} {t : TypeId} (h : Blk w g L t) (o : Obj) : Blk (w.alloc o) g L t := by
  unfold Blk; rw [Below.heap_alloc w o g h.lt]; exact h
theorem Blk.new (w : World) (L : List Value) (t : TypeId) : Blk (w.alloc (.cells L.toArray t)) w.heap.size L t := by
  show (w.heap.push _)[w.heap.size]? = _
  simp
theorem Blk.new' {w : World} {C : Array Value} {L : List Value} {t : TypeId} {k : Nat} (hk : w.heap.size = k) (hC : C = L.toArray) : Blk (w.alloc (.cells C t)) k L t := by
  subst hk; subst hC; exact Blk.new w L t
theorem Blk.set {w : World} {g : Nat} {L : List Value} {t : TypeId} (h : Blk w g L t) (i : Nat) (v : Value) : Blk (w.setCell ⟨g, i, none⟩ v) g (L.set i v) t := by
  have h' : w.heap[g]? = some (.cells L.toArray t (0, 0)) := h
  unfold Blk
  simp [World.setCell, Array.getElem?_modify, h']
theorem Blk.set_other {w : World} {g : Nat} {L : List Value} {t : TypeId} (h : Blk w g L t) {a : Addr} (hne : g ≠ a.block) (v : Value) : Blk (w.setCell a v) g L t := by
  unfold Blk; rw [Below.heap_setCell w a v g hne]; exact h
theorem Blk.below {w w' : World} {g B : Nat} {L : List Value} {t : TypeId} (h : Blk w g L t) (hb : Below B w w') (hg : g < B) : Blk w' g L t := by
  unfold Blk; rw [hb.block g hg]; exact h
theorem Blk.range {w : World} {g : Nat} {L : List Value} {t : TypeId} (h : Blk w g L t) (o : Nat) (cs : List Value) (hc : ∀ j, j < cs.length → L[o + j]? = cs[j]?) : w.rangeAt g o cs := fun j v hv => by
  rw [h.cell, hc j (List.getElem?_eq_some_iff.1 hv).1, hv]
theorem Blk.whole {w : World} {g : Nat} {L : List Value} {t : TypeId} (h : Blk w g L t) : w.rangeAt g 0 L := h.range 0 L (fun j _ => by rw [Nat.zero_add])
theorem Blk.there {w : World} {g : Nat} {L : List Value} {t : TypeId} (h : Blk w g L t) (o n : Nat) (hn : o + n ≤ L.length) : w.there g o n := fun j hj => by
  refine ⟨?_, h.frozen _⟩
  rw [h.cell, List.getElem?_eq_getElem (by omega)]; rfl
theorem Blk.setCells {g : Nat} {t : TypeId} : ∀ (vs : List Value) (o : Nat) (w : World) (L : List Value), Blk w g L t → o + vs.length ≤ L.length → Blk (w.setCells g o vs) g (splice L o vs) t
  | [], o, w, L, h, _ => by
    have : splice L o ([] : List Value) = L := by simp [splice]
    rw [this]; exact h
  | v :: r, o, w, L, h, hl => by
    have hl' : o + (r.length + 1) ≤ L.length := by simpa using hl
    have := Blk.setCells r (o + 1) _ _ (h.set o v) (by simp; omega)
    have e : splice (L.set o v) (o + 1) r = splice L o (v :: r) := by
      unfold splice
      have ho : o < (L.set o v).length := by simp; omega
      have e1 : (L.set o v).take (o + 1) = L.take o ++ [v] := by
        rw [List.take_succ_eq_append_getElem ho]; simp [List.take_set_of_le]
      have e2 : (L.set o v).drop (o + 1 + r.length) = L.drop (o + (r.length + 1)) := by
        rw [List.drop_set_of_lt (by omega)]; congr 1; omega
      rw [e1, e2]; simp
    rw [← e]; exact this
theorem Blk.setCells_other {w : World} {g g' : Nat} {L : List Value} {t : TypeId} (h : Blk w g L t) (hne : g ≠ g') (o : Nat) (vs : List Value) : Blk (w.setCells g' o vs) g L t := by
  unfold Blk; rw [World.heap_setCells_other w g' o vs h.lt hne]; exact h
theorem splice_all {α : Type} (L vs : List α) (h : L.length = vs.length) : splice L 0 vs = vs := by
  unfold splice; simp [h]
theorem Blk.setAll {w : World} {g : Nat} {L vs : List Value} {t : TypeId} (h : Blk w g L t) (hl : L.length = vs.length) : Blk (w.setCells g 0 vs) g vs t := by
  have := Blk.setCells vs 0 w L h (by omega)
  rwa [splice_all L vs hl] at this
theorem below_setCells {B g : Nat} {w0 : World} (hg : B ≤ g) : ∀ (vs : List Value) (o : Nat) (w : World), Below B w0 w → Below B w0 (w.setCells g o vs)
  | [], _, _, h => h
  | v :: r, o, w, h => below_setCells hg r (o + 1) _ (h.setCell (by exact hg) v)
theorem size_setCells' (g : Nat) : ∀ (vs : List Value) (o : Nat) (w : World), (w.setCells g o vs).heap.size = w.heap.size
  | [], _, _ => rfl
  | v :: r, o, w => by rw [World.setCells, size_setCells' g r (o + 1)]; simp [World.setCell]
theorem kept_set {w : World} {a c : Addr} {v u : Value} (h : w.cell? c = some u) (hne : c.block ≠ a.block) : (w.setCell a v).cell? c = some u := by
  rw [World.cell?_setCell_other _ _ _ _ (by intro e; subst e; exact hne rfl)]; exact h

/-- A result that lies in a variable of its own. -/
theorem results_cell_one {P : Program} {fn : Func} {p : Tmp} {ty : TypeId} (h : fn.results = #[.cell p ty]) (tmps : Array Value) (w : World) (g : Nat) (L : List Value) (t : TypeId) (d : TypeDesc) (hp : tmps.getD p undef = .pointer (some ⟨g, 0, none⟩))
    (hb : Blk w g L t) (hu : P.underlying ty = some d) (hd : d.isRow = true) (hi : (P.info? ty).map (·.size) = some L.length) : (results fn tmps).run P w = .ok (.agg L.toArray) w := by
  exact results_cell_row h tmps w g t L.toArray (0, 0) d hp hb hu (by cases d <;> first | rfl | cases hd) (by simpa using hi)

/-! ### A part of an array -/
theorem size_of_info {P : Program} {e : TypeId} {n : Nat} (he : (P.info? e).map (·.size) = some n) (w : World) : (sizeOf e).run P w = .ok n w := by
  cases hq : P.info? e with
  | none => simp [hq] at he
  | some i =>
    have : i.size = n := by simpa [hq] using he
    simp [sizeOf, typeInfo, hq, this]
theorem run_part {P : Program} {t e : TypeId} {N : Nat} (hu : P.underlying t = some (.array N e)) (he : (P.info? e).map (·.size) = some 1) (w : World) (b o : Nat) (kl kh : IntKind) (l h : Int) (L H : Nat)
    (hl : l = L) (hh : h = H) (h1 : L ≤ H) (h2 : H ≤ N) (h3 : L < N) :
    (Instr.sliceAt t (.pointer (some ⟨b, o, none⟩)) (some (.int kl l)) (some (.int kh h)) none).run P w = .ok (.slice (some ⟨b, o + L, none⟩) (H - L) (N - L)) w := by
  have e1 : P.arrayLen t = N := by simp [Program.arrayLen, hu]
  have e2 : P.elem t = e := by simp [Program.elem, hu]
  have hu' : P.underlying t = some (.array (P.arrayLen t) (P.elem t)) := by rw [e1, e2]; exact hu
  rw [run_sliceAt_array_lh w t _ hu' kl kh l h (by omega) (by omega) (by omega), e1, e2, size_of_info he]
  have a1 : l.toNat = L := by omega
  have a2 : h.toNat = H := by omega
  have a3 : ¬ N = L := by omega
  simp [slicedAt, a1, a2, a3, Addr.add_mid]
theorem run_part_l {P : Program} {t e : TypeId} {N : Nat} (hu : P.underlying t = some (.array N e)) (he : (P.info? e).map (·.size) = some 1) (w : World) (b o : Nat) (kl : IntKind) (l : Int) (L : Nat)
    (hl : l = L) (h3 : L < N) :
    (Instr.sliceAt t (.pointer (some ⟨b, o, none⟩)) (some (.int kl l)) none none).run P w = .ok (.slice (some ⟨b, o + L, none⟩) (N - L) (N - L)) w := by
  have e1 : P.arrayLen t = N := by simp [Program.arrayLen, hu]
  have e2 : P.elem t = e := by simp [Program.elem, hu]
  have hu' : P.underlying t = some (.array (P.arrayLen t) (P.elem t)) := by rw [e1, e2]; exact hu
  rw [run_sliceAt_array_l w t _ hu' kl l (by omega) (by omega), e1, e2, size_of_info he]
  have a1 : l.toNat = L := by omega
  have a3 : ¬ N = L := by omega
  simp [slicedAt, a1, a3, Addr.add_mid]
theorem run_part_h {P : Program} {t e : TypeId} {N : Nat} (hu : P.underlying t = some (.array N e)) (he : (P.info? e).map (·.size) = some 1) (w : World) (b o : Nat) (kh : IntKind) (h : Int) (H : Nat)
    (hh : h = H) (h2 : H ≤ N) (h3 : 0 < N) :
    (Instr.sliceAt t (.pointer (some ⟨b, o, none⟩)) none (some (.int kh h)) none).run P w = .ok (.slice (some ⟨b, o, none⟩) H N) w := by
  have e1 : P.arrayLen t = N := by simp [Program.arrayLen, hu]
  have e2 : P.elem t = e := by simp [Program.elem, hu]
  have hu' : P.underlying t = some (.array (P.arrayLen t) (P.elem t)) := by rw [e1, e2]; exact hu
  rw [run_sliceAt_array_h w t _ hu' kh h (by omega) (by omega), e1, e2, size_of_info he]
  have a2 : h.toNat = H := by omega
  have a3 : ¬ N = 0 := by omega
  simp [slicedAt, a2, a3, Addr.add_mid]
end Go.Proofs.Ythmhphjblglcoaa
