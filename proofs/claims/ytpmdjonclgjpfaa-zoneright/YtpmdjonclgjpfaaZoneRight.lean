/- Right of any shape; New, Open of others. -/
import Derived.Test.YtpmdjonclgjpfaaRows
import Derived.Test.YtpmdjonclgjpfaaZIn
import Derived.WalkKit
import Derived.ProofKit
import Derived.OpenShut
import Derived.ShutString
import Derived.ChangeOld
import Derived.Below
namespace Go.Proofs.Ytpmdjonclgjpfaa.zoneRight
open Go.ChangeShapes Go.WideShapes Go.ChangeAt Go.RowKit
open Go.ChangeMaps (open_string shut_string)
set_option linter.unusedVariables false

theorem own : ownKnob Try.prog.godebug = none := by kernel_rfl
theorem laidOut : laidOutB Try.prog = true := by kernel_rfl

theorem walk (s0 : Sh) (w : World) (w0 : ShF s0) :
    Calls Try.prog 4 #[.agg (shL s0).toArray] w fun e w' => e = .returned (.bool true) ∧ Below w.heap.size w w' := by
  have hz : -9223372036854775808 ≤ s0.z := w0.1.1
  obtain ⟨q, hq⟩ : ∃ q, q = w.heap.size := ⟨_, rfl⟩
  have hb : Blk (w.alloc (.cells #[.int .i64 s0.z, .int .i64 s0.zb, .int .i64 s0.b, .int .i64 s0.r] 23)) q (shL s0) 23 := Blk.new' hq.symm rfl
  have hbel : Below w.heap.size w (w.alloc (.cells #[.int .i64 s0.z, .int .i64 s0.zb, .int .i64 s0.b, .int .i64 s0.r] 23)) := (Below.refl _ _).alloc (Nat.le_refl _) _
  simp only [shL]
  go_enter Try.func4, Try.ntmps4
  go_upto_region 1 with fail
  rw [← hq]
  generalize hW1 : World.alloc _ _ = W1 at *
  clear hW1 hq
  have cells : ∀ {V : World}, Below W1.heap.size W1 V → V.cell? ⟨q, 0, none⟩ = some (.int .i64 s0.z) ∧ V.cell? ⟨q, 1, none⟩ = some (.int .i64 s0.zb) ∧ V.cell? ⟨q, 2, none⟩ = some (.int .i64 s0.b) ∧ V.cell? ⟨q, 3, none⟩ = some (.int .i64 s0.r) := by
    intro V hV
    have h := (below_out Non hV).blk hb id
    exact ⟨h.cell 0, h.cell 1, h.cell 2, h.cell 3⟩
  obtain ⟨e0, e1, e2, e3⟩ := cells (Below.refl _ _)
  have HC : Hid (∀ {V : World}, Below W1.heap.size W1 V → V.cell? ⟨q, 0, none⟩ = some (.int .i64 s0.z) ∧ V.cell? ⟨q, 1, none⟩ = some (.int .i64 s0.zb) ∧ V.cell? ⟨q, 2, none⟩ = some (.int .i64 s0.b) ∧ V.cell? ⟨q, 3, none⟩ = some (.int .i64 s0.r)) := cells
  have HB : Hid (Below w.heap.size w W1 ∧ -9223372036854775808 ≤ s0.z) := ⟨hbel, hz⟩
  clear cells hb hbel hz w0
  by_cases hr : RightS s0
  · have hd : decide (RightS s0) = true := by simp [hr]
    have HD : Hid (decide (RightS s0) = true) := hd
    clear hr hd
    go_wp2_with (first
      | (go_at_call 21; refine (right_of s0 _ HB.out.2).mono ?_; rintro e W2 ⟨rfl, b2⟩; rw [HD.out]; obtain ⟨g0, g1, g2, g3⟩ := HC.out b2)
      | (go_at_call 22; refine (rRight_of s0 _ HB.out.2).mono ?_; rintro e W3 ⟨rfl, b3⟩; rw [HD.out]; have b23 := b2.trans (b3.mono b2.size))
      | (go_at_call 11; refine (known_any _).mono ?_; rintro e W4 ⟨rfl, b4⟩; have b24 := b23.trans (b4.mono b23.size)))
    go_ret
    exact ⟨rfl, HB.out.1.trans (b24.mono HB.out.1.size)⟩
  · have hd : decide (RightS s0) = false := by simp [hr]
    have HD : Hid (decide (RightS s0) = false ∧ ¬ RightS s0) := ⟨hd, hr⟩
    clear hr hd
    go_wp2_with (first
      | (go_at_call 21; refine (right_of s0 _ HB.out.2).mono ?_; rintro e W2 ⟨rfl, b2⟩; rw [HD.out.1]; obtain ⟨g0, g1, g2, g3⟩ := HC.out b2)
      | (go_at_call 22; refine (rRight_of s0 _ HB.out.2).mono ?_; rintro e W3 ⟨rfl, b3⟩; rw [HD.out.1]; have b23 := b2.trans (b3.mono b2.size))
      | (go_at_call 11; refine (known_any _).mono ?_; rintro e W4 ⟨rfl, b4⟩; have b24 := b23.trans (b4.mono b23.size); obtain ⟨m0, m1, m2, m3⟩ := HC.out b24)
      | (go_at_call 12; refine (new_of s0 _ HB.out.2).mono ?_; rintro e W5 ⟨b5, (⟨_, rfl⟩ | ⟨hno, _⟩)⟩; rotate_left; (exact (HD.out.2 hno).elim); have b25 := b24.trans (b5.mono b24.size); obtain ⟨n0, n1, n2, n3⟩ := HC.out b25)
      | (go_at_call 23; refine (openNo_of s0 _ _ _ _ HB.out.2 HD.out.2).mono ?_; rintro e W6 ⟨rfl, b6⟩; have b26 := b25.trans (b6.mono b25.size)))
    go_ret
    exact ⟨rfl, HB.out.1.trans (b26.mono HB.out.1.size)⟩

set_option maxRecDepth 100000 in
theorem lifted (os : Os) (started : os.Started) (H : Type) (enc : TypeId × Value → H) :
    ReturnsInHanded {} Try.checked os 4 .any (Rows.zoneRightSpec.pre6 enc Try.prog Try.f4 Rows.zoneRightRow.domain false) (Rows.zoneRightSpec.post enc Try.prog Try.f4 false true false false) := by
  refine returnsInHanded_of_change (C := Try.checked) own started (by kernel_rfl) Try.func4
    (ChangeSpec.witness6 (enc := enc) (C := Try.checked) false ⟨#[], #[.agg #[.int .i64 0, .int .i64 0, .int .i64 0, .int .i64 0]], []⟩ 8 (by kernel_rfl) (by kernel_rfl) (by kernel_rfl) (by kernel_rfl)) ?_
  intro W base args ds gs before hval0 hW hcnd _
  have hval : ∀ (j : Nat) t v, Try.f4.params[j]? = some t → args[j]? = some v → Value.okWide Try.prog W .any base t v := hval0
  have hW' := hW
  obtain ⟨p, q, hA0, hV, rfl, hfz, hnd⟩ := hW
  have hA : DataW.TrodAll enc Try.prog W 0 (fun _ => true) true Try.f4.params.toList args.toList ds p := hA0
  rw [Try.params4] at hA hval
  obtain ⟨v0, vs0, d0, ds0, p0, q0, hargs, rfl, rfl, h0, r0⟩ := trodAll_cons hA
  obtain ⟨rfl, rfl, rfl⟩ := trodAll_nil r0
  obtain rfl : args = #[v0] := by cases args; simp_all
  obtain ⟨rfl, rfl⟩ := trodVars_none hV
  have k0 := h0
  have lt0 : ∀ x ∈ p0, x.block < W.heap.size := by obtain ⟨m, hm⟩ := k0; exact DataW.trod_lt m _ _ _ hm
  obtain ⟨s0, rfl, w0⟩ := open_shape (hval 0 23 v0 rfl rfl) h0
  clear hA0 hval0
  refine (walk s0 W w0).mono fun e W' ⟨he, bel⟩ => ?_
  subst he
  exact ⟨_, rfl, _, _, _, [], _, [], hW', trodAll_mk1 (shut_bool Try.underlying4 _), (trodAll_cons_mk (Below.trod laidOut (by kernel_rfl) (of_decide_eq_true (by kernel_rfl)) k0 bel lt0) trodAll_mk0), rfl, bel.frame _, fun h => by cases h⟩

theorem over : Rows.zoneRightRow.holds Try.pinned (OpenSpec.ofChange Rows.zoneRightSpec) :=
  OpenClaim.holds_of_wide 4 Try.f4 rfl rfl rfl rfl rfl rfl rfl ⟨rfl, rfl, rfl, rfl, rfl⟩ rfl rfl rfl rfl rfl (by kernel_rfl) Try.func4 (by kernel_rfl)
    (of_decide_eq_true (by kernel_rfl)) (by unfold Func.isWrapper; first | (rw [if_pos (by decide +kernel)]; kernel_rfl) | (rw [if_neg (by decide +kernel)]; exact ⟨rfl, rfl⟩))
    (fun os started H enc _ => lifted os started H enc)

end Go.Proofs.Ytpmdjonclgjpfaa.zoneRight
namespace Go.Proofs.Ytpmdjonclgjpfaa
/-- The statement. -/
theorem zoneRight_holds : Rows.ZoneRightSaid := zoneRight.over
#print axioms zoneRight_holds
end Go.Proofs.Ytpmdjonclgjpfaa
