/- The chapter's example. -/
import Derived.Test.YtofccgcddomcfaaSgNew
import Derived.Test.YtofccgcddomcfaaSgT
import Derived.Test.YtofccgcddomcfaaSgLow
namespace Go.Proofs.Ytofccgcddomcfaa
open Go.RowKit
set_option linter.unusedVariables false
set_option maxRecDepth 4000

theorem list_at {W : World} {B n c : Nat} {A : Option Addr} {xs : List Int} (h : W.ownsRow B 3 1 (.slice A n c) n (kInts .i64 xs)) (h0 : xs ≠ []) : ∃ ga, A = some ⟨ga, 0, none⟩ ∧ B ≤ ga ∧ n ≤ c ∧ ∀ i, i < xs.length → W.cell? ⟨ga, i, none⟩ = some (.int .i64 (xs.getD i 0)) := by
  have hl : xs.length = n := by have := h.1; simp [kInts] at this; omega
  have hp : 0 < xs.length := List.length_pos_iff.2 h0
  rcases h.2 with ⟨hv, hn⟩ | ⟨g, cap, cur, hv, hb, hg, hc, hcm, hsz, htake⟩
  · omega
  · cases hv
    refine ⟨g, rfl, hb, hc, fun i hi => ?_⟩
    have hcl := h.cells (g := g) rfl i (.int .i64 (xs.getD i 0)) (by simp [kInts, List.getD, hi])
    rw [Addr.add_mid, Nat.zero_add] at hcl
    exact hcl

theorem kn1 : newZ 6 = [4, 4, 1, 1, 1, 1] := by decide
theorem kn2 : takeZ [4, 4, 1, 1, 1, 1] = [4, 4, 2, 1, 1, 1] ∧ takeI [4, 4, 1, 1, 1, 1] = 2 ∧ takeB [4, 4, 1, 1, 1, 1] = true := by decide
theorem kn3 : takeZ [4, 4, 2, 1, 1, 1] = [4, 4, 2, 2, 1, 1] ∧ takeI [4, 4, 2, 1, 1, 1] = 3 ∧ takeB [4, 4, 2, 1, 1, 1] = true := by decide
theorem kn4 : listZ [4, 4, 2, 2, 1, 1] 1 = [4, 5] ∧ lowB [4, 4, 2, 2, 1, 1] 2 = true := by decide
theorem kn5 : turnZ [4, 4, 2, 2, 1, 1] 2 2 3 = [4, 4, 3, 2, 1, 1] ∧ stZ [4, 4, 2, 2, 1, 1] 2 = 2 := by decide
theorem kn6 : turnZ [4, 4, 3, 2, 1, 1] 2 3 1 = [4, 4, 1, 2, 1, 1] ∧ stZ [4, 4, 3, 2, 1, 1] 2 = 3 := by decide
theorem kn7 : lowB [4, 4, 1, 2, 1, 1] 2 = false := by decide
theorem kn8 : RightS ⟨6, 8, 64, 2⟩ := by decide

theorem gknown_any (w : World) : Calls Try.prog 7 #[] w fun e w' => e = .returned (.bool true) ∧ Below w.heap.size w w' := by
  have hnew := gNew_of ⟨6, 8, 64, 2⟩ w (by decide)
  simp only [shL] at hnew
  have HN : Hid (Calls Try.prog 8 #[.agg #[.int .i64 6, .int .i64 8, .int .i64 64, .int .i64 2]] w fun e w' => NewGot w ⟨6, 8, 64, 2⟩ e w') := hnew
  clear hnew
  go_enter Try.func7, Try.ntmps7
  go_wp2_with fail
  refine HN.out.mono ?_
  rintro e w1 (⟨hno, _⟩ | ⟨_, p, g, rfl, hs1, hp1, hg1, hb1⟩)
  · exact absurd kn8 hno
  have hs1 : SegP w1 p g 2 [4, 4, 1, 1, 1, 1] := hs1
  clear HN
  have HB1 : Hid (w.heap.size ≤ p ∧ w.heap.size ≤ g ∧ Below w.heap.size w w1) := ⟨hp1, hg1, hb1⟩
  clear hp1 hg1 hb1
  have HT := gTake_of p g 2 _ w1 hs1
  have HS : Hid (SegP w1 p g 2 [4, 4, 1, 1, 1, 1]) := hs1
  clear hs1
  go_wp2_with fail
  refine HT.mono ?_
  clear HT
  rintro e w2 ⟨rfl, hs2, ho2⟩
  rw [kn2.1] at hs2
  rw [kn2.2.1, kn2.2.2]
  have HB2 : Hid (Below w.heap.size w w2) := HB1.out.2.2.trans (ho2.below HB1.out.2.2.size (fun j e => by rw [e]; exact HB1.out.2.1))
  clear ho2 HS
  have HT := gTake_of p g 2 _ w2 hs2
  have HS : Hid (SegP w2 p g 2 [4, 4, 2, 1, 1, 1]) := hs2
  clear hs2
  go_wp2_with fail
  refine HT.mono ?_
  clear HT
  rintro e w3 ⟨rfl, hs3, ho3⟩
  rw [kn3.1] at hs3
  rw [kn3.2.1, kn3.2.2]
  have HB3 : Hid (Below w.heap.size w w3) := HB2.out.trans (ho3.below HB2.out.size (fun j e => by rw [e]; exact HB1.out.2.1))
  clear ho3 HS HB2
  have HT := gList_of p g 2 _ 1 w3 hs3
  have HS : Hid (SegP w3 p g 2 [4, 4, 2, 2, 1, 1]) := hs3
  clear hs3
  go_wp2_with fail
  refine HT.mono ?_
  clear HT
  rintro e w4 ⟨A, c, rfl, ho, hb4⟩
  rw [kn4.1] at ho ⊢
  obtain ⟨ga, rfl, hga, hcap, hcell⟩ := list_at ho (by simp)
  have hs4 := HS.out.under hb4
  have x4 : w4.cell? ⟨ga, 0, none⟩ = some (.int .i64 4) := hcell 0 (by decide)
  have hne : g ≠ ga := by have := HS.out.lt.2; omega
  have HB4 : Hid (Below w.heap.size w w4 ∧ g ≠ ga) := ⟨HB3.out.trans (hb4.mono HB3.out.size), hne⟩
  clear hb4 HB3 HS ho hcell hga hne
  have HT := gLow_of p g 2 _ w4 hs4
  rw [kn4.2] at HT
  have HS : Hid (SegP w4 p g 2 [4, 4, 2, 2, 1, 1]) := hs4
  clear hs4
  go_wp2_with fail
  refine HT.mono ?_
  clear HT
  rintro e w5 ⟨rfl, hb5⟩
  have hs5 := HS.out.under hb5
  have x5 : w5.cell? ⟨ga, 0, none⟩ = some (.int .i64 4) := by rw [hb5.cell (old_block x4)]; exact x4
  have HB5 : Hid (Below w.heap.size w w5) := HB4.out.1.trans (hb5.mono HB4.out.1.size)
  clear hb5 HS x4
  have HT := gFill_of p g 2 _ 2 w5 hs5
  have HS : Hid (SegP w5 p g 2 [4, 4, 2, 2, 1, 1]) := hs5
  clear hs5
  go_wp2_with fail
  refine HT.mono ?_
  clear HT
  rintro e w6 ⟨rfl, hs6, ho6⟩
  rw [kn5.1] at hs6
  rw [kn5.2]
  have x6 : w6.cell? ⟨ga, 0, none⟩ = some (.int .i64 4) := ho6.cell x5 (fun e => HB4.out.2 e.symm)
  have HB6 : Hid (Below w.heap.size w w6) := HB5.out.trans (ho6.below HB5.out.size (fun j e => by rw [e]; exact HB1.out.2.1))
  clear ho6 HS x5 HB5
  have HT := gClear_of p g 2 _ 2 w6 hs6
  have HS : Hid (SegP w6 p g 2 [4, 4, 3, 2, 1, 1]) := hs6
  clear hs6
  go_wp2_with fail
  refine HT.mono ?_
  clear HT
  rintro e w7 ⟨rfl, hs7, ho7⟩
  rw [kn6.1] at hs7
  rw [kn6.2]
  have x7 : w7.cell? ⟨ga, 0, none⟩ = some (.int .i64 4) := ho7.cell x6 (fun e => HB4.out.2 e.symm)
  have HB7 : Hid (Below w.heap.size w w7) := HB6.out.trans (ho7.below HB6.out.size (fun j e => by rw [e]; exact HB1.out.2.1))
  clear ho7 HS x6 HB6
  have HT := gLow_of p g 2 _ w7 hs7
  rw [kn7] at HT
  clear hs7
  go_wp2_with fail
  refine HT.mono ?_
  clear HT
  rintro e w8 ⟨rfl, hb8⟩
  have HB8 : Hid (Below w.heap.size w w8) := HB7.out.trans (hb8.mono HB7.out.size)
  clear hb8
  go_wp2
  go_ret
  exact ⟨rfl, HB8.out⟩
end Go.Proofs.Ytofccgcddomcfaa
