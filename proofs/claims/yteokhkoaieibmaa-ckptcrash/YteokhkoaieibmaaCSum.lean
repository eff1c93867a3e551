/- What one call of Sum does, of lists of bytes one behind the other, and of the document's own Sum: it hands back the plain sum of their bytes and touches nothing. -/
import Derived.Test.YteokhkoaieibmaaCNext
namespace Go.Proofs.Yteokhkoaieibmaa
open Go.RowKit
set_option linter.unusedVariables false
set_option maxRecDepth 4000

/-- A list of bytes as it lies in memory: its address, length and room, and its bytes. -/
structure Lst where
  a : Option Addr
  len : Nat
  cap : Nat
  zs : List Int

/-- It lies in the world: so many bytes, each in its cell. -/
def Lst.In (l : Lst) (w : World) : Prop :=
  l.zs.length = l.len ∧ l.len ≤ maxLen ∧ (∀ z ∈ l.zs, Fits8 z) ∧
  (l.len = 0 ∨ ∃ b off, l.a = some ⟨b, off, none⟩ ∧ ∀ i, i < l.len → w.cell? ⟨b, off + i, none⟩ = some (.int .u8 (l.zs.getD i 0)))

def bytesOf (ls : List Lst) : List Int := ls.flatMap (·.zs)

theorem ctake_snoc {α : Type} (l : List α) (k : Nat) (h : k < l.length) : l.take (k + 1) = l.take k ++ [l[k]] :=
  List.take_succ_eq_append_getElem h

theorem cr_take (s : Int) (zs : List Int) (k : Nat) (h : k < zs.length) : crI s (zs.take (k + 1)) = crN (crI s (zs.take k)) (zs.getD k 0) := by
  rw [ctake_snoc zs k h, crI_snoc]; simp [List.getD, h]

theorem cbytes_take (ls : List Lst) (k : Nat) (h : k < ls.length) : bytesOf (ls.take (k + 1)) = bytesOf (ls.take k) ++ ls[k].zs := by
  unfold bytesOf; rw [ctake_snoc ls k h, List.flatMap_append]; simp

theorem fits0 : Fits32 0 := by unfold Fits32; omega
theorem fits_take {zs : List Int} (h : ∀ z ∈ zs, Fits8 z) (k : Nat) : ∀ z ∈ zs.take k, Fits8 z := fun z hz => h z (List.mem_of_mem_take hz)
theorem fits_getD {zs : List Int} (h : ∀ z ∈ zs, Fits8 z) (k : Nat) : Fits8 (zs.getD k 0) := by
  by_cases hk : k < zs.length
  · have : zs.getD k 0 = zs[k] := by simp [List.getD, hk]
    rw [this]; exact h _ (List.getElem_mem hk)
  · have : zs.getD k 0 = 0 := by simp [List.getD, List.getElem?_eq_none (by omega : zs.length ≤ k)]
    rw [this]; unfold Fits8; omega

/-- Lists that lie in the world one behind the other in cells. -/
def ListsIn (w : World) (a : Option Addr) (ls : List Lst) : Prop :=
  ls.length ≤ maxLen ∧ (∀ l ∈ ls, l.In w) ∧
  (ls.length = 0 ∨ ∃ b off, a = some ⟨b, off, none⟩ ∧ ∀ i (h : i < ls.length), w.cell? ⟨b, off + i, none⟩ = some (.slice ls[i].a ls[i].len ls[i].cap))

theorem cbytes_fit {w : World} {a : Option Addr} {ls : List Lst} (h : ListsIn w a ls) : ∀ z ∈ bytesOf ls, Fits8 z := by
  intro z hz
  simp only [bytesOf, List.mem_flatMap] at hz
  obtain ⟨l, hl, hz⟩ := hz
  exact (h.2.1 l hl).2.2.1 z hz

set_option maxHeartbeats 400000 in
theorem crcSum_any (a : Option Addr) (cap n : Nat) (ls : List Lst) (w : World) (hn : ls.length = n) (h : ListsIn w a ls) :
    Calls Try.prog 83 #[.slice a n cap] w fun e w' => e = .returned (.int .u32 (crI 0 (bytesOf ls))) ∧ w' = w := by
  have H : Hid (ls.length = n ∧ ListsIn w a ls) := ⟨hn, h⟩
  have hm : n ≤ maxLen := by rw [← hn]; exact h.1
  unfold maxLen at hm
  clear hn h
  go_enter Try.func83, Try.ntmps83
  go_wp2
  go_loop [3, 10] (fun s i => ∃ k : Nat, k ≤ n ∧ i = .int .i64 k ∧ s = .int .u32 (crI 0 (bytesOf (ls.take k)))) (fun _ i => n - (intOf i).toNat)
  case atStart => exact ⟨0, by omega, rfl, rfl⟩
  case round =>
    obtain ⟨k, hk, rfl, rfl⟩ := hrel
    by_cases hlt : k < n
    · have hkl : k < ls.length := by rw [H.out.1]; exact hlt
      obtain ⟨b, off, ha, hc⟩ := H.out.2.2.2.resolve_left (by omega)
      subst ha
      replace hc := hc k hkl
      have hin := H.out.2.2.1 ls[k] (List.getElem_mem hkl)
      have HB : Hid (bytesOf (ls.take (k + 1)) = bytesOf (ls.take k) ++ ls[k].zs) := cbytes_take ls k hkl
      have HF : Hid (Fits32 (crI 0 (bytesOf (ls.take k)))) := crI_fits fits0 (fun z hz => by
        have : z ∈ bytesOf ls := by
          simp only [bytesOf, List.mem_flatMap] at hz ⊢
          obtain ⟨l, hl, hz⟩ := hz
          exact ⟨l, List.mem_of_mem_take hl, hz⟩
        exact cbytes_fit H.out.2 z this)
      generalize hL : ls[k] = L at hc hin HB
      clear hL
      obtain ⟨a', len', cap', zs'⟩ := L
      obtain ⟨hz, hm', hfit, hcells⟩ := hin
      have HZ : Hid (zs'.length = len' ∧ (∀ z ∈ zs', Fits8 z)) := ⟨hz, hfit⟩
      replace hm' : len' ≤ maxLen := hm'
      unfold maxLen at hm'
      replace hc : w.cell? ⟨b, off + k, none⟩ = some (.slice a' len' cap') := hc
      have HC : Hid (len' = 0 ∨ ∃ b off, a' = some ⟨b, off, none⟩ ∧ ∀ i, i < len' → w.cell? ⟨b, off + i, none⟩ = some (.int .u8 (zs'.getD i 0))) := hcells
      clear hz hfit hcells
      go_wp2
      go_loop [3, 16] (fun s i => ∃ j : Nat, j ≤ len' ∧ i = .int .i64 j ∧ s = .int .u32 (crI (crI 0 (bytesOf (ls.take k))) (zs'.take j))) (fun _ i => len' - (intOf i).toNat)
      case atStart => exact ⟨0, by omega, rfl, rfl⟩
      case round =>
        obtain ⟨j, hj, rfl, rfl⟩ := hrel
        by_cases hjt : j < len'
        · obtain ⟨b', off', ha', hcs⟩ := HC.out.resolve_left (by omega)
          subst ha'
          replace hcs := hcs j hjt
          have hf := crI_fits HF.out (fits_take HZ.out.2 j)
          have hg := fits_getD HZ.out.2 j
          have HS : Hid (crI (crI 0 (bytesOf (ls.take k))) (zs'.take (j + 1)) = crN (crI (crI 0 (bytesOf (ls.take k))) (zs'.take j)) (zs'.getD j 0)) := cr_take _ _ _ (by rw [HZ.out.1]; exact hjt)
          go_wp2_with (go_at_call 89; refine (crcNext_of _ _ _ hf hg).mono ?_; rintro e w' ⟨rfl, rfl⟩)
          go_round
          case rel => exact ⟨j + 1, by omega, by go_num, val_u32 HS.out.symm⟩
          case measure => simp [intOf]; omega
        · have HT : Hid (zs'.take j = zs') := List.take_of_length_le (by rw [HZ.out.1]; omega)
          go_wp2
          go_round
          case rel => exact ⟨k + 1, by omega, by go_num, val_u32 (by rw [HB.out, crI_append, HT.out])⟩
          case measure => simp [intOf]; omega
    · have : k = n := by omega
      subst this
      have HT : Hid (ls.take k = ls) := List.take_of_length_le (by rw [H.out.1]; omega)
      go_wp2
      go_ret
      exact ⟨ret_u32 (by rw [HT.out]), rfl⟩
/-- One list, whose header lies in a cell. -/
theorem crcSum_of (g : Nat) (a : Option Addr) (n c d : Nat) (zs : List Int) (w : World) (hc : w.cell? ⟨g, 0, none⟩ = some (.slice a n c)) (h : BIn w a n zs) :
    Calls Try.prog 83 #[.slice (some ⟨g, 0, none⟩) 1 d] w fun e w' => e = .returned (.int .u32 (crI 0 zs)) ∧ w' = w := by
  have := crcSum_any (some ⟨g, 0, none⟩) d 1 [⟨a, n, c, zs⟩] w rfl ⟨by unfold maxLen; simp, by intro l hl; simp at hl; subst hl; exact h, .inr ⟨g, 0, rfl, fun i hi => by
    match i, hi with
    | 0, _ => exact hc⟩⟩
  simpa [bytesOf] using this
set_option maxHeartbeats 400000 in
theorem dCrcSum_any (a : Option Addr) (len cap : Nat) (zs : List Int) (w : World) (h : Lst.In ⟨a, len, cap, zs⟩ w) :
    Calls Try.prog 40 #[.slice a len cap] w fun e w' => e = .returned (.int .u32 (crI 0 zs)) ∧ w' = w := by
  obtain ⟨hz, hm, hfit, hcells⟩ := h
  have HZ : Hid (zs.length = len ∧ (∀ z ∈ zs, Fits8 z)) := ⟨hz, hfit⟩
  replace hm : len ≤ maxLen := hm
  unfold maxLen at hm
  have HC : Hid (len = 0 ∨ ∃ b off, a = some ⟨b, off, none⟩ ∧ ∀ i, i < len → w.cell? ⟨b, off + i, none⟩ = some (.int .u8 (zs.getD i 0))) := hcells
  clear hz hfit hcells
  go_enter Try.func40, Try.ntmps40
  go_wp2
  go_loop [3, 4] (fun s i => ∃ j : Nat, j ≤ len ∧ i = .int .i64 j ∧ s = .int .u32 (crI 0 (zs.take j))) (fun _ i => len - (intOf i).toNat)
  case atStart => exact ⟨0, by omega, rfl, rfl⟩
  case round =>
    obtain ⟨j, hj, rfl, rfl⟩ := hrel
    by_cases hjt : j < len
    · obtain ⟨b', off', ha', hcs⟩ := HC.out.resolve_left (by omega)
      subst ha'
      replace hcs := hcs j hjt
      have hf := crI_fits fits0 (fits_take HZ.out.2 j)
      have hg := fits_getD HZ.out.2 j
      have HS : Hid (crI 0 (zs.take (j + 1)) = crN (crI 0 (zs.take j)) (zs.getD j 0)) := cr_take _ _ _ (by rw [HZ.out.1]; exact hjt)
      go_wp2_with (go_at_call 70; refine (dCrcNext_of _ _ _ hf hg).mono ?_; rintro e w' ⟨rfl, rfl⟩)
      go_round
      case rel => exact ⟨j + 1, by omega, by go_num, val_u32 HS.out.symm⟩
      case measure => simp [intOf]; omega
    · have HT : Hid (zs.take j = zs) := List.take_of_length_le (by rw [HZ.out.1]; omega)
      go_wp2
      go_ret
      exact ⟨ret_u32 (by rw [HT.out]), rfl⟩

theorem dCrcSum_of (a : Option Addr) (n c : Nat) (zs : List Int) (w : World) (h : BIn w a n zs) :
    Calls Try.prog 40 #[.slice a n c] w fun e w' => e = .returned (.int .u32 (crI 0 zs)) ∧ w' = w := dCrcSum_any a n c zs w h
end Go.Proofs.Yteokhkoaieibmaa
