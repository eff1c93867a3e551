/- What one call of the document's Same does: states that are alike. -/
import Derived.Test.YteokhkoaieibmaaCkKnown
import Derived.BigQuiet
namespace Go.Proofs.Yteokhkoaieibmaa
open Go.RowKit
set_option linter.unusedVariables false
set_option maxRecDepth 4000

theorem neqP_same (x : Pl) (W : World) : (Go.binOp .neq 83 (.agg #[.int .u32 x.1.1, .int .u64 x.1.2, .int .i64 x.2.1, .int .i64 x.2.2]) (.agg #[.int .u32 x.1.1, .int .u64 x.1.2, .int .i64 x.2.1, .int .i64 x.2.2])).run Try.prog W = .ok (.bool false) W := by
  go_simp
theorem KIn.place {w : World} {a : Option Addr} {n : Nat} {xs : List Pl} (h : KIn w a n xs) {i : Nat} (hi : i < n) : ∃ b off x, a = some ⟨b, off, none⟩ ∧ xs[i]? = some x ∧ w.cell? ⟨b, off + i * 4, none⟩ = some (.int .u32 x.1.1) ∧ w.cell? ⟨b, off + i * 4 + 1, none⟩ = some (.int .u64 x.1.2) ∧ w.cell? ⟨b, off + i * 4 + 2, none⟩ = some (.int .i64 x.2.1) ∧ w.cell? ⟨b, off + i * 4 + 3, none⟩ = some (.int .i64 x.2.2) := by
  obtain ⟨x, hx⟩ : ∃ x, xs[i]? = some x := ⟨xs[i]'(by have := h.1; omega), by simp⟩
  obtain ⟨b, off, ha, hc⟩ := h.2.2.2.resolve_left (by omega)
  exact ⟨b, off, x, ha, hx, hc i x hx 0 _ rfl, hc i x hx 1 _ rfl, hc i x hx 2 _ rfl, hc i x hx 3 _ rfl⟩
set_option maxHeartbeats 2000000 in
theorem dkSame_of (seq : Int) (A : Option Addr) (n C : Nat) (B : Option Addr) (m D : Nat) (xs : List Pl) (w : World) (h1 : KIn w A n xs) (h2 : KIn w B m xs) :
    Calls Try.prog 18 #[.agg #[.int .u64 seq, .slice A n C], .agg #[.int .u64 seq, .slice B m D]] w fun e w' => e = .returned (.bool true) ∧ Below w.heap.size w w' := by
  obtain ⟨q, hq⟩ : ∃ q, q = w.heap.size := ⟨_, rfl⟩
  have hnm : m = n := h2.1.symm.trans h1.1
  subst hnm
  have hn : m ≤ 9223372036854775807 := by have := h1.2.1; unfold maxLen at this; omega
  have HW : Hid (Blk ((w.alloc (.cells #[.int .u64 seq, .slice A m C] 27)).alloc (.cells #[.int .u64 seq, .slice B m D] 27)) q [.int .u64 seq, .slice A m C] 27 ∧ Blk ((w.alloc (.cells #[.int .u64 seq, .slice A m C] 27)).alloc (.cells #[.int .u64 seq, .slice B m D] 27)) (q + 1) [.int .u64 seq, .slice B m D] 27 ∧ Below w.heap.size w ((w.alloc (.cells #[.int .u64 seq, .slice A m C] 27)).alloc (.cells #[.int .u64 seq, .slice B m D] 27))) :=
    ⟨(Blk.new' hq.symm rfl).alloc _, Blk.new' (by simp [hq]) rfl, ((Below.refl _ _).alloc (Nat.le_refl _) _).alloc (by simp) _⟩
  have H : Hid (KIn w A m xs ∧ KIn w B m xs) := ⟨h1, h2⟩
  clear h1 h2
  go_enter Try.func18, Try.ntmps18
  go_upto_region 1 with fail
  rw [← hq]
  clear hq
  generalize hW : World.alloc (World.alloc w _) _ = W at HW ⊢
  clear hW
  have KK : Hid (W.cell? ⟨q, 0, none⟩ = some (.int .u64 seq) ∧ W.cell? ⟨q, 1, none⟩ = some (.slice A m C) ∧ W.cell? ⟨q + 1, 0, none⟩ = some (.int .u64 seq) ∧ W.cell? ⟨q + 1, 1, none⟩ = some (.slice B m D)) := ⟨HW.out.1.cell 0, HW.out.1.cell 1, HW.out.2.1.cell 0, HW.out.2.1.cell 1⟩
  have H2 : Hid (KIn W A m xs ∧ KIn W B m xs ∧ Below w.heap.size w W) := ⟨H.out.1.below HW.out.2.2, H.out.2.below HW.out.2.2, HW.out.2.2⟩
  clear H HW
  have K : Hid (∀ (j : Nat), (W.drewN j).cell? ⟨q, 0, none⟩ = some (.int .u64 seq) ∧ (W.drewN j).cell? ⟨q, 1, none⟩ = some (.slice A m C) ∧ (W.drewN j).cell? ⟨q + 1, 0, none⟩ = some (.int .u64 seq) ∧ (W.drewN j).cell? ⟨q + 1, 1, none⟩ = some (.slice B m D)) := fun j => KK.out
  clear KK
  have a0 : W.cell? ⟨q, 0, none⟩ = some (.int .u64 seq) := (K.out 0).1
  have a1 : W.cell? ⟨q, 1, none⟩ = some (.slice A m C) := (K.out 0).2.1
  have b0 : W.cell? ⟨q + 1, 0, none⟩ = some (.int .u64 seq) := (K.out 0).2.2.1
  have b1 : W.cell? ⟨q + 1, 1, none⟩ = some (.slice B m D) := (K.out 0).2.2.2
  go_wp2
  clear a0 a1 b0 b1
  go_loopw [5] (fun x wr => ∃ i j : Nat, x = .int .i64 i ∧ i ≤ m ∧ wr = W.drewN j) (fun x _ => m - (intOf x).toNat)
  case atStart => exact ⟨0, 0, rfl, Nat.zero_le _, rfl⟩
  case round =>
    obtain ⟨i, j, rfl, hi, rfl⟩ := hrel
    have a0 : ∀ j, (W.drewN j).cell? ⟨q, 0, none⟩ = some (.int .u64 seq) := fun j => (K.out j).1
    have a1 : ∀ j, (W.drewN j).cell? ⟨q, 1, none⟩ = some (.slice A m C) := fun j => (K.out j).2.1
    have b0 : ∀ j, (W.drewN j).cell? ⟨q + 1, 0, none⟩ = some (.int .u64 seq) := fun j => (K.out j).2.2.1
    have b1 : ∀ j, (W.drewN j).cell? ⟨q + 1, 1, none⟩ = some (.slice B m D) := fun j => (K.out j).2.2.2
    rcases Nat.lt_or_ge i m with hlt | hge
    · obtain ⟨ba, oa, x, rfl, hx, x0, x1, x2, x3⟩ := H2.out.1.place hlt
      obtain ⟨bb, ob, y, rfl, hy, y0, y1, y2, y3⟩ := H2.out.2.1.place hlt
      rw [hx] at hy
      obtain rfl := Option.some.inj hy
      have hi' : (i : Int) < m := by omega
      have hwi : IntKind.i64.wrap ((i : Int) + 1) = (i : Int) + 1 := by rw [IntKind.wrap_i64]; omega
      have X0 : ∀ j, (W.drewN j).cell? ⟨ba, oa + i * 4, none⟩ = some (.int .u32 x.1.1) := fun j => x0
      have X1 : ∀ j, (W.drewN j).cell? ⟨ba, oa + i * 4 + 1, none⟩ = some (.int .u64 x.1.2) := fun j => x1
      have X2 : ∀ j, (W.drewN j).cell? ⟨ba, oa + i * 4 + 2, none⟩ = some (.int .i64 x.2.1) := fun j => x2
      have X3 : ∀ j, (W.drewN j).cell? ⟨ba, oa + i * 4 + 3, none⟩ = some (.int .i64 x.2.2) := fun j => x3
      have Y0 : ∀ j, (W.drewN j).cell? ⟨bb, ob + i * 4, none⟩ = some (.int .u32 x.1.1) := fun j => y0
      have Y1 : ∀ j, (W.drewN j).cell? ⟨bb, ob + i * 4 + 1, none⟩ = some (.int .u64 x.1.2) := fun j => y1
      have Y2 : ∀ j, (W.drewN j).cell? ⟨bb, ob + i * 4 + 2, none⟩ = some (.int .i64 x.2.1) := fun j => y2
      have Y3 : ∀ j, (W.drewN j).cell? ⟨bb, ob + i * 4 + 3, none⟩ = some (.int .i64 x.2.2) := fun j => y3
      clear x0 x1 x2 x3 y0 y1 y2 y3 hx hy
      go_wp2
      go_quiet (fail)
      rename_i nq
      try simp only [World.drewN_drewN]
      go_wp2
      go_roundw
      case rel => exact ⟨i + 1, j + nq, by simp, by omega, rfl⟩
      case measure => simp [intOf]; omega
    · have hi' : ¬ (i : Int) < m := by omega
      go_wp2
      go_ret
      exact ⟨rfl, H2.out.2.2.trans ((below_drewN W _).mono H2.out.2.2.size)⟩
end Go.Proofs.Yteokhkoaieibmaa
