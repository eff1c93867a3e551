/- What is asked, as a client writes it: the mathematics; a text's bytes. -/
import Derived.Test.YtkegpgmmlmineaaGHead
import Derived.Lib.AppendStr
namespace Go.Proofs.Ytkegpgmmlmineaa
open Go.RowKit
set_option linter.unusedVariables false
set_option maxRecDepth 4000

/-- The bytes of a text. -/
def nums (s : ByteArray) : List Int := s.data.toList.map fun b => (b.toNat : Int)
theorem nums_length (s : ByteArray) : (nums s).length = s.size := by rw [nums, List.length_map, Array.length_toList]; rfl
theorem nums_fits (s : ByteArray) : ∀ z ∈ nums s, Fits8 z := by
  intro z hz
  simp only [nums, List.mem_map] at hz
  obtain ⟨b, _, rfl⟩ := hz
  have := b.toNat_lt
  unfold Fits8
  omega
theorem nums_cells (s : ByteArray) : Lib.strCells s = u8s (nums s) := by simp [Lib.strCells, u8s, nums]
theorem nums_str (s : ByteArray) : strOfNums (nums s) = s := by
  unfold strOfNums nums
  apply ByteArray.ext
  apply Array.ext'
  simp only [List.map_map]
  have : ((fun n : Int => UInt8.ofNat n.toNat) ∘ fun b : UInt8 => (b.toNat : Int)) = id := by funext b; simp
  rw [this, List.map_id]
theorem big2 {x : Int} (h : Fits16 x) : bigI 2 x = [x / 256, x % 256] := by
  unfold Fits16 at h
  have e : bigI 2 x = [x / 2 ^ 8 % 256, x / 2 ^ 0 % 256] := rfl
  rw [e]
  have e1 : x / 2 ^ 8 % 256 = x / 256 := by omega
  have e2 : x / 2 ^ 0 % 256 = x % 256 := by omega
  rw [e1, e2]
/-- Numbers in two bytes each. -/
def twoB (X : List Int) : List Int := packL (List.replicate X.length 2) X
theorem twoB_next (X : List Int) {j : Nat} (hj : j < X.length) (h : Fits16 (X.getD j 0)) : twoB (X.take (j + 1)) = twoB (X.take j) ++ [X.getD j 0 / 256, X.getD j 0 % 256] := by
  unfold twoB
  rw [take_next X hj, List.length_append, List.length_singleton, List.replicate_succ', packL_snoc _ _ _ _ (by simp), show wd 2 = 2 from rfl, big2 h]
theorem twoB_length (X : List Int) : (twoB X).length = 2 * X.length := by
  unfold twoB
  rw [packL_length _ _ (by simp), offL_rep]
theorem twoB_fits (X : List Int) : ∀ z ∈ twoB X, Fits8 z := packL_fits _ _
theorem modL_two : ∀ X : List Int, (∀ x ∈ X, Fits16 x) → modL (List.replicate X.length 2) X = X := by
  intro X
  induction X with
  | nil => intro _; rfl
  | cons x X ih =>
    intro h
    have hx := h x (by simp)
    unfold Fits16 at hx
    rw [List.length_cons, List.replicate_succ]
    simp only [modL]
    rw [ih (fun y hy => h y (by simp [hy])), show (256 : Int) ^ wd 2 = 65536 from rfl, Int.emod_eq_of_lt hx.1 hx.2]
theorem pairs_two (X : List Int) (h : ∀ x ∈ X, Fits16 x) : pairs (twoB X) = X := by
  have hv := val_pack (List.replicate X.length 2) X [] (by simp) (fun v hv => by have := h v hv; unfold Fits16 at this; unfold FitsU; omega)
  rw [List.append_nil] at hv
  unfold pairs
  rw [twoB_length, show 2 * X.length / 2 = X.length by omega]
  unfold twoB
  rw [hv, modL_two X h]
/-- A name, with its length ahead. -/
def nameB (L : List Int) : List Int := [0, 0, 0, ((L.length : Nat) : Int)] ++ L
theorem nameB_length (L : List Int) : (nameB L).length = 4 + L.length := by simp [nameB]; omega
theorem ask_on (L R : List Int) : aN (nameB L ++ R) = (L.length : Nat) ∧ aT (nameB L ++ R) = R ∧ ((nameB L ++ R).drop 4).take L.length = L := by
  have e1 : aN (nameB L ++ R) = (L.length : Nat) := by unfold aN nameB; simp [numI]
  refine ⟨e1, ?_, ?_⟩
  · unfold aT
    rw [e1, Int.toNat_natCast]
    exact List.drop_left' (nameB_length L)
  · unfold nameB
    simp
theorem ask_iff (L R : List Int) (hL : L.length ≤ 255) : AskOk (nameB L ++ R) ↔ 2 ≤ R.length ∧ 2 * numI (R.take 2) = (((R.drop 2).length : Nat) : Int) := by
  obtain ⟨e1, e2, _⟩ := ask_on L R
  have hl : (nameB L ++ R).length = 4 + L.length + R.length := by rw [List.length_append, nameB_length]
  unfold AskOk aR aK
  rw [e1, e2, hl]
  constructor
  · exact fun h => ⟨h.2.2.2.1, h.2.2.2.2⟩
  · exact fun h => ⟨by omega, by omega, by omega, h.1, h.2⟩
/-- How many numbers, and they. -/
def listB (X : List Int) : List Int := [((X.length : Nat) : Int) / 256, ((X.length : Nat) : Int) % 256] ++ twoB X
theorem listB_length (X : List Int) : (listB X).length = 2 + 2 * X.length := by simp [listB, twoB_length]; omega
theorem listB_two (X R : List Int) : numI ((listB X ++ R).take 2) = (X.length : Nat) := by
  unfold listB
  simp [numI]
  omega
theorem ask_yes (L X : List Int) (hL : L.length ≤ 255) (hX : ∀ x ∈ X, Fits16 x) : askE (nameB L ++ listB X) = 0 ∧ askS (nameB L ++ listB X) = L ∧ askL (nameB L ++ listB X) = X := by
  have hd : (listB X).drop 2 = twoB X := by unfold listB; exact List.drop_left' rfl
  have h2 := listB_two X []
  rw [List.append_nil] at h2
  have ok : AskOk (nameB L ++ listB X) := (ask_iff L (listB X) hL).2 ⟨by rw [listB_length]; omega, by rw [h2, hd, twoB_length]; omega⟩
  obtain ⟨e1, e2, e3⟩ := ask_on L (listB X)
  obtain ⟨r1, r2, r3⟩ := ask_ok ok
  refine ⟨r3, ?_, ?_⟩
  · rw [r1, e1, Int.toNat_natCast, e3]
  · rw [r2]
    unfold aR
    rw [e2, hd, pairs_two X hX]
theorem ask_more (L X : List Int) (y : Int) (hL : L.length ≤ 255) : askE ((nameB L ++ listB X) ++ [y]) = 74 := by
  rw [List.append_assoc]
  refine (ask_bad (fun h => ?_)).2.2
  have h' := ((ask_iff L (listB X ++ [y]) hL).1 h).2
  rw [listB_two, List.length_drop, List.length_append, listB_length, List.length_singleton] at h'
  omega
theorem ask_less (L X : List Int) (hL : L.length ≤ 255) : askE ((nameB L ++ listB X).take (4 + L.length + (1 + 2 * X.length))) = 74 := by
  have e : (nameB L ++ listB X).take (4 + L.length + (1 + 2 * X.length)) = nameB L ++ (listB X).take (1 + 2 * X.length) := by
    rw [List.take_append, nameB_length, List.take_of_length_le (by rw [nameB_length]; omega), show 4 + L.length + (1 + 2 * X.length) - (4 + L.length) = 1 + 2 * X.length by omega]
  rw [e]
  refine (ask_bad (fun h => ?_)).2.2
  obtain ⟨h1, h2⟩ := (ask_iff L _ hL).1 h
  have hl : ((listB X).take (1 + 2 * X.length)).length = 1 + 2 * X.length := by rw [List.length_take, listB_length]; omega
  rw [hl] at h1
  have e2 : ((listB X).take (1 + 2 * X.length)).take 2 = (listB X ++ []).take 2 := by rw [List.take_take, Nat.min_eq_left h1, List.append_nil]
  rw [e2, listB_two, List.length_drop, hl] at h2
  omega
theorem ask_fits (L X : List Int) (hL : L.length ≤ 255) (hf : ∀ z ∈ L, Fits8 z) (hX : X.length ≤ 300) : ∀ z ∈ nameB L ++ listB X, Fits8 z := by
  intro z hz
  unfold nameB listB at hz
  simp only [List.mem_append, List.mem_cons, List.not_mem_nil, or_false] at hz
  rcases hz with (h | h) | (h | h)
  · unfold Fits8; omega
  · exact hf z h
  · unfold Fits8; omega
  · exact twoB_fits X z h
end Go.Proofs.Ytkegpgmmlmineaa
