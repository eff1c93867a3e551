/- What one call of the document's own Sum, and of known (the chapter's examples), does: the first hands back the plain sum, the second true; neither touches what was there. -/
import Derived.Test.YtleejamgpdejoaaSum
import Derived.Lib.SlBytesConst
import Derived.Below
import Derived.OpenShut
namespace Go.Proofs.Ytleejamgpdejoaa
open Go.RowKit
set_option linter.unusedVariables false

set_option maxHeartbeats 400000 in
theorem refsum_any (a : Option Addr) (len cap : Nat) (zs : List Int) (w : World) (h : Lst.In ⟨a, len, cap, zs⟩ w) :
    Calls Try.prog 9 #[.slice a len cap] w fun e w' => e = .returned (.int .u32 (sumI 0 zs)) ∧ w' = w := by
  obtain ⟨hz, hm, hfit, hcells⟩ := h
  have HZ : Hid (zs.length = len ∧ (∀ z ∈ zs, Fits8 z)) := ⟨hz, hfit⟩
  replace hm : len ≤ maxLen := hm
  unfold maxLen at hm
  have HC : Hid (len = 0 ∨ ∃ b off, a = some ⟨b, off, none⟩ ∧ ∀ i, i < len → w.cell? ⟨b, off + i, none⟩ = some (.int .u8 (zs.getD i 0))) := hcells
  clear hz hfit hcells
  go_enter Try.func9, Try.ntmps9
  go_wp2
  go_loop [3, 4] (fun s i => ∃ j : Nat, j ≤ len ∧ i = .int .i64 j ∧ s = .int .u32 (sumI 0 (zs.take j))) (fun _ i => len - (intOf i).toNat)
  case atStart => exact ⟨0, by omega, rfl, rfl⟩
  case round =>
    obtain ⟨j, hj, rfl, rfl⟩ := hrel
    by_cases hjt : j < len
    · obtain ⟨b', off', ha', hcs⟩ := HC.out.resolve_left (by omega)
      subst ha'
      replace hcs := hcs j hjt
      have hf := sumI_fits fits0 (fits_take HZ.out.2 j)
      have hg := fits_getD HZ.out.2 j
      have HS : Hid (sumI 0 (zs.take (j + 1)) = nextI (sumI 0 (zs.take j)) (zs.getD j 0)) := sum_take _ _ _ (by rw [HZ.out.1]; exact hjt)
      go_wp2_with (go_at_call 11; refine (refnext_any _ _ _ hf hg).mono ?_; rintro e w' ⟨rfl, rfl⟩)
      go_round
      case rel => exact ⟨j + 1, by omega, by go_num, val_u32 HS.out.symm⟩
      case measure => simp [intOf]; omega
    · have HT : Hid (zs.take j = zs) := List.take_of_length_le (by rw [HZ.out.1]; omega)
      go_wp2
      go_ret
      exact ⟨ret_u32 (by rw [HT.out]), rfl⟩

theorem fits32_wf {a : Int} (h : (Lit.int .u32 a).wf = true) : Fits32 a := by
  have := bounds_u32 h
  unfold Fits32
  omega
theorem fits8_wf {a : Int} (h : (Lit.int .u8 a).wf = true) : Fits8 a := by
  have := bounds_u8 h
  unfold Fits8
  omega

/-! ### Lists stay where they lie while new blocks come -/
theorem old_block {w : World} {a : Addr} {v : Value} (h : w.cell? a = some v) : a.block < w.heap.size := by
  rcases Nat.lt_or_ge a.block w.heap.size with h' | h'
  · exact h'
  · simp [World.cell?, Array.getElem?_eq_none h'] at h

theorem Lst.In.below {l : Lst} {w w' : World} (h : l.In w) (hb : Below w.heap.size w w') : l.In w' := by
  obtain ⟨h1, h2, h3, h4⟩ := h
  refine ⟨h1, h2, h3, ?_⟩
  rcases h4 with h4 | ⟨b, off, ha, hc⟩
  · exact .inl h4
  · exact .inr ⟨b, off, ha, fun i hi => by rw [hb.cell (old_block (hc i hi))]; exact hc i hi⟩

theorem Lst.In.alloc {l : Lst} {w : World} (h : l.In w) (o : Obj) : l.In (w.alloc o) := h.below ((Below.refl _ _).alloc (Nat.le_refl _) o)

def Lst.head (l : Lst) : Value := .slice l.a l.len l.cap

theorem lists_new (w : World) (ls : List Lst) (C : Array Value) (t : TypeId) (hC : C.toList = ls.map Lst.head) (hm : ls.length ≤ maxLen) (h : ∀ l ∈ ls, l.In w) :
    ListsIn (w.alloc (.cells C t)) (some ⟨w.heap.size, 0, none⟩) ls := by
  refine ⟨hm, fun l hl => (h l hl).alloc _, .inr ⟨w.heap.size, 0, rfl, fun i hi => ?_⟩⟩
  rw [World.cell?_alloc_mark, Nat.zero_add, ← Array.getElem?_toList, hC]
  simp [hi, Lst.head]

theorem lists_none (w : World) (a : Option Addr) : ListsIn w a [] := ⟨by simp, by simp, .inl rfl⟩

/-- A slice of bytes that came in, as the row tells it, is a list that lies in the world. -/
theorem row_in {w : World} {a : Option Addr} {len cap : Nat} {zs : List Int}
    (h : (a = none ∧ len = 0 ∧ cap = 0 ∧ zs = []) ∨
      ∃ x, a = some x ∧ len ≤ cap ∧ cap ≤ maxLen ∧ zs.length = cap ∧ (∀ i, i < zs.length → w.cell? (x.add i) = some (.int .u8 (zs.getD i 0))) ∧ ∀ n ∈ zs, (Lit.int .u8 n).wf = true) :
    Lst.In ⟨a, len, cap, zs.take len⟩ w := by
  rcases h with ⟨rfl, rfl, rfl, rfl⟩ | ⟨x, rfl, hl, hm, hz, hc, hw⟩
  · exact ⟨rfl, Nat.zero_le _, by simp, .inl rfl⟩
  · refine ⟨by simp [hz]; omega, Nat.le_trans hl hm, fun z h => fits8_wf (hw z (List.mem_of_mem_take h)), ?_⟩
    by_cases h0 : len = 0
    · exact .inl h0
    · have hc0 := hc 0 (by omega)
      obtain ⟨b, off, spot⟩ := x
      have hs : spot = none := by simpa [Addr.add] using World.cell?_spot hc0
      subst hs
      refine .inr ⟨b, off, rfl, fun i hi => ?_⟩
      have := hc i (by replace hi : i < len := hi; omega)
      replace hi : i < len := hi
      have hadd : (⟨b, off, none⟩ : Addr).add i = ⟨b, off + i, none⟩ := by
        unfold Addr.add; by_cases h : i = 0
        · subst h; simp
        · simp [h]
      rw [hadd] at this
      simpa [List.getD, List.getElem?_take, hi] using this

theorem sum_new (w : World) (ls : List Lst) (C : Array Value) (n c : Nat) (bs : List Int) (hC : C.toList = ls.map Lst.head) (hn : ls.length = n) (hm : n ≤ maxLen) (h : ∀ l ∈ ls, l.In w) (hs : bytesOf ls = bs) :
    Calls Try.prog 8 #[.slice (some ⟨w.heap.size, 0, none⟩) n c] (w.alloc (.cells C 22)) fun e w' => e = .returned (.int .u32 (sumI 0 bs)) ∧ w' = w.alloc (.cells C 22) := by
  subst hs
  exact sum_any _ _ _ _ _ hn (lists_new w ls C 22 hC (by omega) h)

theorem sum_one {a : Option Addr} {len cap : Nat} {zs : List Int} (w : World) (h : Lst.In ⟨a, len, cap, zs⟩ w) :
    Calls Try.prog 8 #[.slice (some ⟨w.heap.size, 0, none⟩) 1 1] (w.alloc (.cells #[.slice a len cap] 22)) fun e w' => e = .returned (.int .u32 (sumI 0 zs)) ∧ w' = w.alloc (.cells #[.slice a len cap] 22) :=
  sum_new w [⟨a, len, cap, zs⟩] #[.slice a len cap] 1 1 zs rfl rfl (by unfold maxLen; omega) (by intro l hl; simp at hl; subst hl; exact h) (by simp [bytesOf])

/-! ### The chapter's examples -/
def nineRow : Obj := .cells #[.int .u8 49, .int .u8 50, .int .u8 51, .int .u8 52, .int .u8 53, .int .u8 54, .int .u8 55, .int .u8 56, .int .u8 57] 5 (9, 10)
def nineHead (w : World) : Obj := .cells #[.slice (some ⟨w.heap.size, 0, none⟩) 9 9] 22

theorem nine_in (w : World) : Lst.In ⟨some ⟨w.heap.size, 0, none⟩, 9, 9, [49, 50, 51, 52, 53, 54, 55, 56, 57]⟩ (w.alloc nineRow) := by
  refine ⟨rfl, by show (9 : Nat) ≤ maxLen; unfold maxLen; omega, by simp [Fits8], .inr ⟨w.heap.size, 0, rfl, fun i hi => ?_⟩⟩
  unfold nineRow
  rw [World.cell?_alloc_mark, Nat.zero_add]
  match i, hi with
  | 0, _ => rfl
  | 1, _ => rfl
  | 2, _ => rfl
  | 3, _ => rfl
  | 4, _ => rfl
  | 5, _ => rfl
  | 6, _ => rfl
  | 7, _ => rfl
  | 8, _ => rfl

theorem sum_nine (w : World) :
    Calls Try.prog 8 #[.slice (some ⟨w.heap.size + 1, 0, none⟩) 1 1] ((w.alloc nineRow).alloc (nineHead w)) fun e w' => e = .returned (.int .u32 3421780262) ∧ w' = (w.alloc nineRow).alloc (nineHead w) := by
  have hs : (w.alloc nineRow).heap.size = w.heap.size + 1 := by simp
  have h := sum_any (some ⟨w.heap.size + 1, 0, none⟩) 1 1 [⟨some ⟨w.heap.size, 0, none⟩, 9, 9, [49, 50, 51, 52, 53, 54, 55, 56, 57]⟩] ((w.alloc nineRow).alloc (nineHead w)) rfl (by
    have := lists_new (w.alloc nineRow) [⟨some ⟨w.heap.size, 0, none⟩, 9, 9, [49, 50, 51, 52, 53, 54, 55, 56, 57]⟩] #[.slice (some ⟨w.heap.size, 0, none⟩) 9 9] 22 rfl (by unfold maxLen; simp) (by intro l hl; simp at hl; subst hl; exact nine_in w)
    rw [hs] at this
    exact this)
  refine h.mono fun e w' ⟨he, hw⟩ => ⟨?_, hw⟩
  rw [he]
  exact ret_u32 sum_known

set_option maxHeartbeats 400000 in
theorem known_any (w : World) :
    Calls Try.prog 7 #[] w fun e w' => e = .returned (.bool true) ∧ Below w.heap.size w w' := by
  have kc := fun (w : World) (C : Array Value) (n c : Nat) => Lib.run_convert_bytes_const (P := Try.prog) w 22 5 C n c Try.underlying22 Try.underlying5
  go_enter Try.func7, Try.ntmps7
  go_wp2_with fail
  refine (sum_nine w).mono ?_
  rintro e w' ⟨rfl, rfl⟩
  go_wp2_with fail
  refine (sum_any none 0 0 [] _ rfl (lists_none _ _)).mono ?_
  rintro e w' ⟨rfl, rfl⟩
  have h0 : sumI 0 (bytesOf []) = 0 := rfl
  go_wp2
  go_ret
  exact ⟨rfl, ((Below.refl _ _).alloc (Nat.le_refl _) _).alloc (by simp) _⟩
end Go.Proofs.Ytleejamgpdejoaa
