/- What one call of each, List, Low does. -/
import Derived.Test.YtofccgcddomcfaaSgP
import Derived.Test.YtofccgcddomcfaaNumK
import Derived.BigQuiet
namespace Go.Proofs.Ytofccgcddomcfaa
open Go.RowKit
set_option linter.unusedVariables false
set_option maxRecDepth 4000

def F63 (z : Int) : Prop := -9223372036854775808 ≤ z ∧ z < 9223372036854775808
theorem wfI {z : Int} (h : F63 z) : (Lit.int .i64 z).wf = true := by
  unfold F63 at h
  simp [Lit.wf, IntKind.min, IntKind.max, IntKind.signed, IntKind.bits]
  omega
/-- A variable that holds a row of the call's own. -/
def LS (B q : Nat) (W : World) (xs : List Int) : Prop :=
  ∃ A c, Blk W q [.slice A xs.length c] 37 ∧ W.ownsRow B 3 1 (.slice A xs.length c) xs.length (kInts .i64 xs) ∧ B ≤ q ∧ B ≤ W.heap.size
def CS (B q : Nat) (W : World) (n : Nat) : Prop := Blk W q [.int .i64 n] 3 ∧ B ≤ q

theorem gListC_of (B q i : Nat) (xs : List Int) (w : World) (h : LS B q w xs) (hl : xs.length ≤ 300) (hi : i ≤ 300) :
    Calls Try.prog 32 #[.int .i64 i, .pointer (some ⟨q, 0, none⟩)] w fun e w' => e = .returned (.tuple #[]) ∧ LS B q w' (xs ++ [(i : Int)]) ∧ Below B w w' := by
  obtain ⟨A, c, hq, ho, hB, hs⟩ := h
  have c0 : w.cell? ⟨q, 0, none⟩ = some (.slice A xs.length c) := hq.cell 0
  generalize hn : xs.length = n at *
  have HH : Hid (Blk w q [.slice A n c] 37 ∧ w.ownsRow B 3 1 (.slice A n c) n (kInts .i64 xs) ∧ B ≤ q ∧ B ≤ w.heap.size ∧ n ≤ 300 ∧ i ≤ 300 ∧ xs.length = n) := ⟨hq, ho, hB, hs, hl, hi, hn⟩
  clear hq ho hB hs hl hi hn
  go_enter Try.func32, Try.ntmps32
  go_wp2_with (at_builtin; refine wpList_append_kept (k := .i64) Try.underlying37 Try.zero_int (by omega) rfl (.tmp 3) (.tmp 5) rfl B A n c _ rfl (HH.out.2.1.alloc _) (some ⟨w.heap.size, 0, none⟩) 1 1 [(i : Int)] rfl (new_nin rfl rfl rfl (fun z hz => by simp at hz; subst hz; exact wfI (by have := HH.out.2.2.2.2.2.1; unfold F63; omega)) (by unfold maxLen; omega)) (fun h => by cases h) (by have := HH.out.2.2.2.2.1; omega) (by have := HH.out.2.2.2.1; simp; omega) ?_; intro a2 c2 w2 ow2 bl2 gr2; have hb2 : Blk w2 q [.slice A n c] 37 := (HH.out.1.alloc _).grown gr2 (own_not HH.out.2.1 HH.out.1 (by decide)); have c2q : w2.cell? ⟨q, 0, none⟩ = some (.slice A n c) := hb2.cell 0; have z2q := hb2.frozen 0; have HB : Hid (Blk w2 q [.slice A n c] 37 ∧ w2.ownsRow B 3 1 (.slice a2 (n + 1) c2) (n + 1) (kInts .i64 (xs ++ [(i : Int)])) ∧ Below B (w.alloc (.cells #[.int .i64 i] 3)) w2) := ⟨hb2, ow2, bl2⟩; clear hb2 ow2 bl2 gr2)
  first | go_end0 | refine bodyPost_ret (results_none rfl _ _ _) rfl ?_
  have hl : (xs ++ [(i : Int)]).length = n + 1 := by simp [HH.out.2.2.2.2.2.2]
  refine ⟨rfl, ⟨a2, c2, ?_, ?_, HH.out.2.2.1, ?_⟩, ?_⟩
  · rw [hl]; exact HB.out.1.set 0 _
  · rw [hl]; exact (out_one w2 q 0 _).own HB.out.2.1 (fun g hg e => own_not HB.out.2.1 HB.out.1 (by decide) (by rw [← e]; exact hg))
  · have := HB.out.2.2.size; have := HH.out.2.2.2.1; simp [World.setCell] at *; omega
  · exact ((((Below.refl B w).alloc HH.out.2.2.2.1 _).trans HB.out.2.2).setCell (by exact HH.out.2.2.1) _)
theorem gLowC_of (B q i n : Nat) (w : World) (h : CS B q w n) (hl : n ≤ 300) :
    Calls Try.prog 31 #[.int .i64 i, .pointer (some ⟨q, 0, none⟩)] w fun e w' => e = .returned (.tuple #[]) ∧ CS B q w' (n + 1) ∧ Below B w w' := by
  have c0 : w.cell? ⟨q, 0, none⟩ = some (.int .i64 n) := h.1.cell 0
  have z0 := h.1.frozen 0
  have HH : Hid (CS B q w n) := h
  have hw : IntKind.i64.wrap ((n : Int) + 1) = (n : Int) + 1 := by rw [IntKind.wrap_i64]; omega
  clear h hl
  go_enter Try.func31, Try.ntmps31
  go_wp2
  first | go_end0 | refine bodyPost_ret (results_none rfl _ _ _) rfl ?_
  refine ⟨rfl, ⟨?_, HH.out.2⟩, (Below.refl B w).setCell (by exact HH.out.2) _⟩
  have := HH.out.1.set 0 (.int .i64 ((n : Int) + 1))
  simpa using this
end Go.Proofs.Ytofccgcddomcfaa
