/- A block of memory that is known whole, for a seat without sha. -/
import Derived.Test.YthddclcoikhljaaSpBits
namespace Go.Proofs.Ythddclcoikhljaa
open Go.RowKit
set_option linter.unusedVariables false

def Blk (w : World) (g : Nat) (L : List Value) (t : TypeId) : Prop := w.heap[g]? = some (.cells L.toArray t (0, 0))
theorem Blk.lt {w : World} {g : Nat} {L : List Value} {t : TypeId} (h : Blk w g L t) : g < w.heap.size := (Array.getElem?_eq_some_iff.1 h).1
theorem Blk.cell {w : World} {g : Nat} {L : List Value} {t : TypeId} (h : Blk w g L t) (i : Nat) : w.cell? ⟨g, i, none⟩ = L[i]? := by
  rw [cell_of_row w g i L.toArray t (0, 0) h]; simp
theorem Blk.frozen {w : World} {g : Nat} {L : List Value} {t : TypeId} (h : Blk w g L t) (i : Nat) : w.frozen? ⟨g, i, none⟩ = false := by
  have h' : w.heap[g]? = some (.cells L.toArray t (0, 0)) := h
  simp [World.frozen?, h']
theorem Blk.set {w : World} {g : Nat} {L : List Value} {t : TypeId} (h : Blk w g L t) (i : Nat) (v : Value) : Blk (w.setCell ⟨g, i, none⟩ v) g (L.set i v) t := by
  have h' : w.heap[g]? = some (.cells L.toArray t (0, 0)) := h
  unfold Blk
  simp [World.setCell, Array.getElem?_modify, h']
end Go.Proofs.Ythddclcoikhljaa
