/- What one call of known (of the statements' own) and of SameBytes does. -/
import Derived.Test.YtpliokkmiijieaaDoorSpRead
namespace Go.Proofs.YtpliokkmiijieaaDoor
open Go.RowKit
set_option linter.unusedVariables false
set_option maxRecDepth 4000

theorem str_ne {xs ys : List Int} (hx : ∀ z ∈ xs, Fits8 z) (hy : ∀ z ∈ ys, Fits8 z) (h : xs ≠ ys) : strOfNums xs ≠ strOfNums ys := by
  intro e
  apply h
  have e1 : (xs.map fun n => UInt8.ofNat n.toNat) = ys.map fun n => UInt8.ofNat n.toNat := by rw [← strOfNums_data, ← strOfNums_data, e]
  have hl : xs.length = ys.length := by simpa using congrArg List.length e1
  apply List.ext_getElem hl
  intro i h1 h2
  have e2 : (xs.map fun n => UInt8.ofNat n.toNat)[i]'(by simpa using h1) = (ys.map fun n => UInt8.ofNat n.toNat)[i]'(by simpa using h2) := by simp only [e1]
  simp only [List.getElem_map] at e2
  have e3 := congrArg UInt8.toNat e2
  have f1 := hx _ (List.getElem_mem h1)
  have f2 := hy _ (List.getElem_mem h2)
  unfold Fits8 at f1 f2
  simp only [UInt8.toNat_ofNat'] at e3
  omega
theorem str_eq_of {s t : ByteArray} (h : s.toList = t.toList) : s = t := by
  rw [ByteArray.toList_eq, ByteArray.toList_eq] at h
  have : s.data = t.data := Array.toList_inj.1 h
  exact ByteArray.ext this
theorem str_other {xs ys : List Int} (hx : ∀ z ∈ xs, Fits8 z) (hy : ∀ z ∈ ys, Fits8 z) (h : xs ≠ ys) : ((strOfNums xs).toList == (strOfNums ys).toList) = false := by
  rw [beq_eq_false_iff_ne]
  intro e
  exact str_ne hx hy h (str_eq_of e)
def numsOf (s : ByteArray) : List Int := s.data.toList.map fun b => (b.toNat : Int)
theorem numsOf_str (s : ByteArray) : s = strOfNums (numsOf s) := by
  unfold numsOf
  rw [Lib.Lz.strOfNums_map]
theorem numsOf_fits (s : ByteArray) : ∀ z ∈ numsOf s, Fits8 z := by
  intro z hz
  simp only [numsOf, List.mem_map] at hz
  obtain ⟨b, _, rfl⟩ := hz
  have := b.toNat_lt
  unfold Fits8
  omega
theorem numsOf_length (s : ByteArray) : (numsOf s).length = s.size := by
  simp only [numsOf, List.length_map, Array.length_toList]; rfl
end Go.Proofs.YtpliokkmiijieaaDoor
