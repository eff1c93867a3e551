/- What one call of known (of the statements' own) and of SameBytes does. -/
import Derived.Test.YthddclcoikhljaaSpRead
namespace Go.Proofs.Ythddclcoikhljaa
open Go.RowKit
set_option linter.unusedVariables false

theorem str_ne {xs ys : List Int} (hx : ∀ z ∈ xs, Fits8 z) (hy : ∀ z ∈ ys, Fits8 z) (h : xs ≠ ys) : strOfNums xs ≠ strOfNums ys := by
  intro e
  apply h
  have e1 : (xs.map fun n => UInt8.ofNat n.toNat) = ys.map fun n => UInt8.ofNat n.toNat := by rw [← strOfNums_data, ← strOfNums_data, e]
  have hl : xs.length = ys.length := by simpa using congrArg List.length e1
  apply List.ext_getElem hl
  intro i h1 h2
  have e2 : (xs.map fun n => UInt8.ofNat n.toNat)[i]'(by simpa using h1) = (ys.map fun n => UInt8.ofNat n.toNat)[i]'(by simpa using h2) := by simp only [e1]
  simp only [List.getElem_map] at e2
  have e3 := congrArg UInt8.toNat e2
  have f1 := hx _ (List.getElem_mem h1)
  have f2 := hy _ (List.getElem_mem h2)
  unfold Fits8 at f1 f2
  simp only [UInt8.toNat_ofNat'] at e3
  omega
theorem str_eq_of {s t : ByteArray} (h : s.toList = t.toList) : s = t := by
  rw [ByteArray.toList_eq, ByteArray.toList_eq] at h
  have : s.data = t.data := Array.toList_inj.1 h
  exact ByteArray.ext this
theorem str_other {xs ys : List Int} (hx : ∀ z ∈ xs, Fits8 z) (hy : ∀ z ∈ ys, Fits8 z) (h : xs ≠ ys) : ((strOfNums xs).toList == (strOfNums ys).toList) = false := by
  rw [beq_eq_false_iff_ne]
  intro e
  exact str_ne hx hy h (str_eq_of e)
def numsOf (s : ByteArray) : List Int := s.data.toList.map fun b => (b.toNat : Int)
theorem numsOf_str (s : ByteArray) : s = strOfNums (numsOf s) := by
  unfold numsOf
  rw [Lib.Lz.strOfNums_map]
theorem numsOf_fits (s : ByteArray) : ∀ z ∈ numsOf s, Fits8 z := by
  intro z hz
  simp only [numsOf, List.mem_map] at hz
  obtain ⟨b, _, rfl⟩ := hz
  have := b.toNat_lt
  unfold Fits8
  omega
theorem numsOf_length (s : ByteArray) : (numsOf s).length = s.size := by
  simp only [numsOf, List.length_map, Array.length_toList]; rfl

theorem sameBytes_of (a : Option Addr) (n c : Nat) (xs : List Int) (b : Option Addr) (m d : Nat) (ys : List Int) (w : World) (hx : BIn w a n xs) (hy : BIn w b m ys) (h : xs = ys) :
    Calls Try.prog 13 #[.slice a n c, .slice b m d] w fun e w' => e = .returned (.bool true) ∧ w' = w := by
  subst h
  have h1 := str_of w a n c xs hx
  have h2 := str_of w b m d xs hy
  go_enter Try.func13, Try.ntmps13
  go_wp2
  go_ret
  exact ⟨rfl, rfl⟩

def fooB : List Int := [102, 111, 111, 98, 97, 114]
def fooS : List Int := [109, 122, 120, 119, 54, 121, 116, 98, 111, 105]
theorem foo_wr : wrI fooB = fooS := by kernel_rfl
theorem foo_str : strOfNums fooS = ⟨#[109, 122, 120, 119, 54, 121, 116, 98, 111, 105]⟩ := by kernel_rfl
theorem foo_fits : ∀ z ∈ fooB, Fits8 z := by
  intro z hz
  simp only [fooB, List.mem_cons, List.not_mem_nil, or_false] at hz
  unfold Fits8
  omega
theorem bad1 : readE [109, 122] = 40 := by kernel_rfl
theorem bad2 : readE [77, 89] = 40 := by kernel_rfl
theorem bad3 : readE [109] = 40 := by kernel_rfl

set_option maxHeartbeats 1000000 in
theorem sknown_any (w : World) :
    Calls Try.prog 8 #[] w fun e w' => e = .returned (.bool true) ∧ Below w.heap.size w w' := by
  have kc := fun (w : World) (C : Array Value) (n c : Nat) => Lib.run_convert_bytes_const (P := Try.prog) w 22 5 C n c Try.underlying22 Try.underlying5
  obtain ⟨q, hq⟩ : ∃ q, q = w.heap.size := ⟨_, rfl⟩
  have HQ : Hid (q = w.heap.size) := hq
  rw [← hq]
  clear hq
  go_enter Try.func8, Try.ntmps8
  go_upto_region 2 with (go_at_call 11; refine (spRead_of _ [109, 122] 2 w rfl (by simp [Fits8]) rfl (by omega)).mono ?_; rintro e w1 ⟨a1, m1, c1, rfl, -, -, b1⟩)
  rw [bad1]
  go_upto_region 3 with (go_at_call 11; refine (spRead_of _ [77, 89] 2 w1 rfl (by simp [Fits8]) rfl (by omega)).mono ?_; rintro e w2 ⟨a2, m2, c2, rfl, -, -, b2⟩)
  rw [bad2]
  go_upto_region 4 with (go_at_call 11; refine (spRead_of _ [109] 1 w2 rfl (by simp [Fits8]) rfl (by omega)).mono ?_; rintro e w3 ⟨a3, m3, c3, rfl, -, -, b3⟩)
  rw [bad3]
  have HB : Hid (Below q w w3) := by
    have h1 : Below q w w1 := by rw [HQ.out]; exact b1
    have h2 : Below q w w2 := h1.trans (b2.mono (by have := h1.size; rw [HQ.out] at *; omega))
    exact h2.trans (b3.mono (by have := h2.size; rw [HQ.out] at *; omega))
  clear b1 b2 b3
  have kc3 := kc w3
  clear kc
  go_wp2_with fail
  refine (spWrite_of (some ⟨w3.heap.size, 0, none⟩) 6 6 fooB _ (new_bin rfl rfl rfl foo_fits (by unfold maxLen; omega)) (by omega)).mono ?_
  rw [foo_wr, foo_str]
  rintro e w4 ⟨rfl, b4⟩
  go_wp2
  go_ret
  refine ⟨rfl, ?_⟩
  have h := HB.out
  have hz := h.size
  rw [← HQ.out] at hz
  exact (h.alloc hz _).trans (b4.mono (by simp; omega))
end Go.Proofs.Ythddclcoikhljaa
