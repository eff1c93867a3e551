/- maps.Keys at 32-bit names: what its iterator hands out. -/
import Derived.Test.YtkhldjpghjmgfaaLgMap
import Derived.Maps.OwnIn
import Derived.RangeFuncBox
import Derived.RangeFuncLeaves
import Derived.Sort.MapsRangeIn
import Derived.Shelf.AbstractIn
import Derived.WalkKit
import Derived.OwnWalkIn
import Derived.TacticsInMore
import Derived.RegionIn
import Derived.LoopNIn
import Derived.LoopIn
import Derived.Maps.AppendAt
namespace Go.Proofs.Ytkhldjpghjmgfaa
open Go.RowKit
set_option linter.unusedVariables false

theorem wfW_inv {x : Int} (h : (Lit.int .u32 x).wf = true) : FitsW x := by
  have h2 : IntKind.u32.min ≤ x ∧ x ≤ IntKind.u32.max := by simpa [Lit.wf] using h
  have e1 : IntKind.u32.min = 0 := by decide
  have e2 : IntKind.u32.max = 4294967295 := by decide
  unfold FitsW
  omega
/-- What a range over a map's names has met so far. -/
def Met (D : DataW Value) (left : Lit → Bool) (ss : List Int) : Prop := ss.Nodup ∧ ∀ x, x ∈ ss ↔ FitsW x ∧ Maps.has D (klW x) = true ∧ left (klW x) = false
theorem Met.start (D : DataW Value) : Met D (Maps.has D) [] := ⟨List.nodup_nil, fun x => ⟨fun h => (by cases h), fun h => by rw [h.2.1] at h; cases h.2.2⟩⟩
theorem Met.step {D : DataW Value} {left : Lit → Bool} {ss : List Int} (h : Met D left ss) {x : Int} (hx : FitsW x) (hl : left (klW x) = true) {y : DataW Value} (hat : ∀ zd, D.atKey (klW x) zd = y) :
    Met D (fun z => left z && !z.sameKey (klW x)) (ss ++ [x]) := by
  have hh : Maps.has D (klW x) = true := Maps.has_true_of_atKey hat
  have hnew : x ∉ ss := fun hm => by have := ((h.2 x).1 hm).2.2; rw [hl] at this; cases this
  refine ⟨List.nodup_append.2 ⟨h.1, by simp, fun a ha b hb => by simp at hb; subst hb; exact fun e => hnew (e ▸ ha)⟩, fun y => ?_⟩
  by_cases hy : y = x
  · subst hy
    have hs : (klW y).sameKey (klW y) = true := by simp [klW, Lit.sameKey]
    simp [hh, hx, hs]
  · have hs : (klW y).sameKey (klW x) = false := by simp [klW, Lit.sameKey, hy]
    simp [h.2 y, hy, hs]
/-- The names of a map, each once, in whatever order. -/
def NamesOf (Q : Qs) (ss : List Int) : Prop := ss.Nodup ∧ ∀ x, x ∈ ss ↔ FitsW x ∧ (getQ Q x).isSome = true

set_option maxRecDepth 100000 in
set_option maxHeartbeats 1000000 in
theorem keysI_stops (n : Nat) (hn : 1 ≤ n) (Bm b nn : Nat) (Q : Qs) (w : World) (hBm : Bm < w.heap.size) (hm : w.cell? ⟨Bm, 0, none⟩ = some (.map (some b))) (hq : QMap w b nn Q) :
    SeqStopsK Fence.wide n Try.prog 40 #[.pointer (some ⟨Bm, 0, none⟩)] (fun x : Int => #[Value.int .u32 x]) KeepsWalks (NamesOf Q) (fun _ => True) Q.length w := by
  intro l J Jx W hW hJ _ hY h0
  have hm' : W.cell? ⟨Bm, 0, none⟩ = some (.map (some b)) := (hW.cell (p := ⟨Bm, 0, none⟩) hBm).trans hm
  obtain ⟨D, hown, hsz, hD⟩ := hq.same (w' := W) (hW.block b hq.lt)
  refine callsIn_of_wp Try.func40 rfl trivial ?_ rfl
  simp only [Try.ntmps40, List.size_toArray, List.length_cons, List.length_nil, Nat.reduceAdd, Nat.reduceSub, Array.replicate_succ, Array.replicate_zero, List.push_toArray, List.append_toArray, List.nil_append, List.cons_append]
  gi_wp2_with (first
    | (gi_at_range; refine wpListIn_range_own _ rfl _ 53 rfl 33 34 Try.keyW Try.underlying53 _ b nn _ rfl hown ?_; intro w0 hrg0 hg0 hs0)
    | gi_in)
  try go_frame
  gi_loopw [3] (fun _ wr => ∃ (left : Lit → Bool) (cnt : Nat) (ss : List Int), wr.ranges Try.prog 33 (plainElem Try.prog 34) b W.heap.size nn D left cnt ∧ ss.length + cnt ≤ Maps.size D ∧ Met D left ss ∧ J ss wr)
    (fun _ wr => wr.rangeLeft b W.heap.size)
  case atStart => exact ⟨_, _, [], hrg0, by simp, Met.start D, hJ [] W w0 none h0 hg0 (fun r e => by cases e)⟩
  case round =>
    obtain ⟨left, cnt, ss, hrg, hcs, hC, hJs⟩ := hrel
    gi_wp2_with (first
      | (gi_at_next; refine wpListIn_next_ranges_ii _ rfl _ rfl 33 34 .u32 .u64 Try.keyW Try.underlying33 Try.underlying34 b W.heap.size nn _ _ _ rfl hrg ?_ ?_)
      | gi_in)
    · intro hc0 hl0
      gi_wp2
      go_end0
      refine ⟨⟨_, rfl⟩, .inl ⟨ss, ⟨hC.1, fun x => ?_⟩, hJs⟩⟩
      rw [hC.2 x, hl0]
      constructor
      · rintro ⟨q1, q2, _⟩; exact ⟨q1, (hD x q1).1 ▸ q2⟩
      · rintro ⟨q1, q2⟩; exact ⟨q1, (hD x q1).1.trans q2, rfl⟩
    · intro x c w2 cnt2 hwx hwc hlk hat hrg2 hlt hg2 hs2 hen
      have hJ2 : J ss w2 := hJ ss wr w2 (some W.heap.size) hJs hg2 (fun r e => by cases e; exact ⟨Nat.le_refl _, hrg.iter_walk⟩)
      obtain ⟨fn, tmps, assign, body, hy, hR⟩ := hY ss x w2 hJ2 (by omega)
      have hC2 := hC.step (wfW_inv hwx) hlk hat
      clear hs2
      gi_wp2
      refine hR.mono ?_
      rintro e W3 (⟨rfl, hJ3, hk3⟩ | ⟨rfl, hJx3⟩)
      · gi_wp2
        have hrg3 := hrg2.of_walks hk3
        go_roundw
        case rel => exact ⟨_, cnt2, ss ++ [x], hrg3, by simp; omega, hC2, hJ3⟩
        case measure => rw [hrg3.left_eq, hrg.left_eq]; exact hlt
      · gi_wp2
        refine bodyPost_ret (results_none rfl _ _ _) rfl ?_
        exact ⟨⟨_, rfl⟩, .inr ⟨ss ++ [x], trivial, hJx3⟩⟩
theorem keys_of (mb : Option Nat) (w : World) :
    Calls Try.prog 34 #[.map mb] w fun e w' => e = .returned (.func (.func 40) #[] #[.pointer (some ⟨w.heap.size, 0, none⟩)]) ∧ w' = w.alloc (.cells #[.map mb] 53) := by
  go_enter Try.func34, Try.ntmps34
  go_wp2
  go_ret
  exact ⟨rfl, rfl⟩
end Go.Proofs.Ytkhldjpghjmgfaa
