/- What one call of Low does. -/
import Derived.Test.YtofccgcddomcfaaSgE
import Derived.Lib.QuietBelow
namespace Go.Proofs.Ytofccgcddomcfaa
open Go.RowKit
set_option linter.unusedVariables false
set_option maxRecDepth 4000

set_option maxHeartbeats 800000 in
theorem gLow_of (p g : Nat) (r : Int) (L : List Int) (w : World) (h : SegP w p g r L) :
    Calls Try.prog 20 #[.pointer (some ⟨p, 0, none⟩)] w fun e w' => e = .returned (.bool (lowB L r)) ∧ Below w.heap.size w w' := by
  have hq : Blk (w.alloc (.cells #[.int .i64 0] 3)) w.heap.size [.int .i64 0] 3 := Blk.new' rfl rfl
  have hb0 : Below w.heap.size w (w.alloc (.cells #[.int .i64 0] 3)) := (Below.refl _ _).alloc (Nat.le_refl _) _
  obtain ⟨W, hW⟩ : ∃ W, W = w.alloc (.cells #[.int .i64 0] 3) := ⟨_, rfl⟩
  rw [← hW] at hq hb0
  have hls : CS w.heap.size w.heap.size W (listTo L 1 0).length := by
    have e0 : listTo L 1 0 = [] := rfl
    rw [e0]; exact ⟨hq, Nat.le_refl _⟩
  have hc := eachN_of w.heap.size w.heap.size p g r L 1 _ (h.belowB hb0 h.lt.1 h.lt.2) h.lt.1 h.lt.2 hls
  have HC : Hid (Calls Try.prog 30 #[.pointer (some ⟨p, 0, none⟩), .int .u8 1, .func (.func 31) #[] #[.pointer (some ⟨w.heap.size, 0, none⟩)]] W fun e w' => e = .returned (.tuple #[]) ∧ CS w.heap.size w.heap.size w' (listTo L 1 L.length).length ∧ Below w.heap.size W w') := hc
  have HB : Hid (Below w.heap.size w W ∧ SegP w p g r L) := ⟨hb0, h⟩
  have HW : Hid (W = w.alloc (.cells #[.int .i64 0] 3)) := hW
  clear hq hb0 hls hc h hW
  go_enter Try.func20, Try.ntmps20
  go_wp2_with (go_at_call 30; try rw [← HW.out]; refine HC.out.mono ?_; rintro e w2 ⟨rfl, l1, hb2⟩; have c2 : w2.cell? ⟨w.heap.size, 0, none⟩ = some (.int .i64 (listTo L 1 L.length).length) := l1.1.cell 0; have c3 : w2.cell? ⟨p, 1, none⟩ = some (.int .i64 r) := (HB.out.2.belowB (HB.out.1.trans hb2) HB.out.2.lt.1 HB.out.2.lt.2).c1; have HJ : Hid (Below w.heap.size w w2) := HB.out.1.trans hb2; clear l1 hb2)
  go_quiet (fail)
  go_wp2
  go_ret
  exact ⟨by unfold lowB cntZ listZ; rfl, below_drewN HJ.out _⟩
end Go.Proofs.Ytofccgcddomcfaa
