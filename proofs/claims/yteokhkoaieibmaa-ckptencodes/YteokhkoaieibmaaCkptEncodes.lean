/- CkptEncodes: Encode of any state, for any shape, and Room, are what the chapter says. -/
import Derived.Test.YteokhkoaieibmaaRows
import Derived.Test.YteokhkoaieibmaaJ17
import Derived.Test.YteokhkoaieibmaaJ11
import Derived.Test.YteokhkoaieibmaaJ14
import Derived.Test.YteokhkoaieibmaaJ15
import Derived.Test.YteokhkoaieibmaaJ12
import Derived.Lib.QuietBelow
import Derived.BigQuiet
import Derived.WalkKit
import Derived.ProofKit
import Derived.OpenShut
import Derived.ShutString
import Derived.ChangeOld
import Derived.Below
namespace Go.Proofs.Yteokhkoaieibmaa.ckptEncodes
open Go.ChangeShapes Go.WideShapes Go.ChangeAt Go.RowKit
open Go.ChangeMaps (open_string shut_string)
set_option linter.unusedVariables false

theorem own : ownKnob Try.prog.godebug = none := by kernel_rfl
theorem laidOut : laidOutB Try.prog = true := by kernel_rfl

theorem walk (s0 : Sh) (s1 : Int) (A1 : Option Addr) (n1 C1 : Nat) (x1 : List Pl) (w : World) (w0 : ShF s0) (w1 : FitsU s1 ∧ KIn w A1 n1 x1 ∧ n1 ≤ C1 ∧ (A1 = none → n1 = 0 ∧ C1 = 0)) :
    Calls Try.prog 3 #[.agg (shL s0).toArray, .agg #[.int .u64 s1, .slice A1 n1 C1]] w fun e w' => e = .returned (.bool true) ∧ Below w.heap.size w w' := by
  obtain ⟨f1, k1, l1, _⟩ := w1
  obtain ⟨q, hq⟩ : ∃ q, q = w.heap.size := ⟨_, rfl⟩
  have H1 : Hid (KIn w A1 n1 x1 ∧ n1 ≤ C1 ∧ FitsU s1 ∧ -9223372036854775808 ≤ s0.z) := ⟨k1, l1, f1, w0.1.1⟩
  clear k1 l1 f1 w0
  have HB0 : Hid (Blk ((w.alloc (.cells #[.int .i64 s0.z, .int .i64 s0.zb, .int .i64 s0.b, .int .i64 s0.r] 23)).alloc (.cells #[.int .u64 s1, .slice A1 n1 C1] 27)) q (shL s0) 23 ∧ Blk ((w.alloc (.cells #[.int .i64 s0.z, .int .i64 s0.zb, .int .i64 s0.b, .int .i64 s0.r] 23)).alloc (.cells #[.int .u64 s1, .slice A1 n1 C1] 27)) (q + 1) [.int .u64 s1, .slice A1 n1 C1] 27 ∧ Below w.heap.size w ((w.alloc (.cells #[.int .i64 s0.z, .int .i64 s0.zb, .int .i64 s0.b, .int .i64 s0.r] 23)).alloc (.cells #[.int .u64 s1, .slice A1 n1 C1] 27))) :=
    ⟨(Blk.new' hq.symm rfl).alloc _, Blk.new' (by simp [hq]) rfl, ((Below.refl _ _).alloc (Nat.le_refl _) _).alloc (by simp) _⟩
  simp only [shL]
  go_enter Try.func3, Try.ntmps3
  go_upto_region 1 with fail
  rw [← hq]
  generalize hW1 : World.alloc (World.alloc w _) _ = W1 at HB0 ⊢
  clear hW1 hq
  have HC : Hid (∀ V : World, Below W1.heap.size W1 V → (V.cell? ⟨q, 0, none⟩ = some (.int .i64 s0.z) ∧ V.cell? ⟨q, 1, none⟩ = some (.int .i64 s0.zb) ∧ V.cell? ⟨q, 2, none⟩ = some (.int .i64 s0.b) ∧ V.cell? ⟨q, 3, none⟩ = some (.int .i64 s0.r)) ∧ V.cell? ⟨q + 1, 0, none⟩ = some (.int .u64 s1) ∧ V.cell? ⟨q + 1, 1, none⟩ = some (.slice A1 n1 C1)) := by
    intro V hV
    have h := HB0.out.1.below hV HB0.out.1.lt
    have h' := HB0.out.2.1.below hV HB0.out.2.1.lt
    exact ⟨⟨h.cell 0, h.cell 1, h.cell 2, h.cell 3⟩, h'.cell 0, h'.cell 1⟩
  have HB : Hid (Below w.heap.size w W1) := HB0.out.2.2
  clear HB0
  obtain ⟨⟨e0, e1, e2, e3⟩, o0, o1⟩ := HC.out _ (Below.refl _ _)
  by_cases g1 : (200 : Int) < (n1 : Int)
  · go_wp2
    go_ret
    exact ⟨rfl, HB.out⟩
  have hn : n1 ≤ 200 := by omega
  have HE : Hid (Calls Try.prog 9 #[.agg #[.int .i64 s0.z, .int .i64 s0.zb, .int .i64 s0.b, .int .i64 s0.r], .agg #[.int .u64 s1, .slice A1 n1 C1]] W1 (EncGot W1 s0 s1 x1)) := kencode_of s0 s1 A1 n1 C1 x1 W1 H1.out.2.2.2 H1.out.2.2.1 (H1.out.1.below HB.out) H1.out.2.1
  go_upto_region 4 with (go_at_call 9; refine HE.out.mono ?_; rintro e W2 ⟨v2, rfl, r2, b2⟩)
  have HD : Hid (Calls Try.prog 10 #[.agg #[.int .i64 s0.z, .int .i64 s0.zb, .int .i64 s0.b, .int .i64 s0.r], .agg #[.int .u64 s1, .slice A1 n1 C1]] W2 (DkEncGot W2 s0 s1 x1)) := dkEncode_of s0 s1 A1 n1 C1 x1 W2 H1.out.2.2.2 H1.out.2.2.1 ((H1.out.1.below HB.out).below b2) (by omega)
  obtain ⟨a2, c2, hv2⟩ := r2.slice
  obtain ⟨ol, hol⟩ : ∃ ol, ol = ckO s0 s1 x1 := ⟨_, rfl⟩
  obtain ⟨nl, hnl⟩ : ∃ nl, nl = ol.length := ⟨_, rfl⟩
  obtain ⟨E, hE⟩ : ∃ E, E = ckE s0 x1 := ⟨_, rfl⟩
  have hEw : IntKind.i64.wrap E = E := by
    have : E = 0 ∨ E = 140 ∨ E = 141 := by
      rw [hE]; unfold ckE
      split
      · split <;> simp
      · simp
    rw [IntKind.wrap_i64]; omega
  have hsh : Short ol := by
    rw [hol]; unfold ckO
    split
    · exact ckL_short (by assumption)
    · intro D hD; simp at hD
  rw [← hol, ← hnl] at hv2
  rw [← hol] at r2
  rw [← hE]
  have HO : Hid (ol = ckO s0 s1 x1 ∧ E = ckE s0 x1 ∧ nl = ol.length ∧ Short ol ∧ RowAt (fun j => W1.heap.size ≤ j) W2 (.slice a2 nl c2) ol ∧ Below W1.heap.size W1 W2) := ⟨hol, hE, hnl, hsh, by rw [← hv2]; exact r2, b2⟩
  subst hv2
  clear hol hE hnl hsh r2 b2 e0 e1 e2 e3 o0 o1 HE
  obtain ⟨⟨e0, e1, e2, e3⟩, o0, o1⟩ := HC.out W2 HO.out.2.2.2.2.2
  go_upto_region 5 with (go_at_call 10; refine HD.out.mono ?_; rintro e W3 ⟨v3, rfl, r3, b3⟩)
  rw [← HO.out.2.1]
  rw [← HO.out.1] at r3
  obtain ⟨a3, c3, hv3⟩ := r3.slice
  rw [← HO.out.2.2.1] at hv3
  subst hv3
  have b13 : Below W1.heap.size W1 W3 := HO.out.2.2.2.2.2.trans (b3.mono HO.out.2.2.2.2.2.size)
  have row2 : RowAt (fun j => W1.heap.size ≤ j) W3 (.slice a2 nl c2) ol := HO.out.2.2.2.2.1.out (below_out Non b3) (fun _ _ => id) (fun _ _ _ _ => id)
  have H3 : Hid (Below W1.heap.size W1 W3 ∧ BsIn W3 a2 nl ol ∧ BsIn W3 a3 nl ol ∧ Below w.heap.size w W3) := ⟨b13, row2.bsin HO.out.2.2.2.1, r3.bsin HO.out.2.2.2.1, HB.out.trans (b13.mono HB.out.size)⟩
  clear b13 row2 r3 b3 e0 e1 e2 e3 o0 o1 HD
  obtain ⟨⟨-, -, e2, -⟩, -, -⟩ := HC.out W3 H3.out.1
  obtain ⟨R, hR⟩ : ∃ R, R = roomK s0.b := ⟨_, rfl⟩
  have hRR : (R == R) = true := by simp
  have hEE : (E == E) = true := by simp
  have cK := fun d os => Calls.regrown_of (kknown_any (Go.Sort.grow (redrawn W3 d) os))
  have cR := fun d os => Calls.regrown_of ((kroom_of s0.b (Go.Sort.grow (redrawn W3 d) os)).mono (fun _ _ h => (⟨h.1, by rw [h.2]; exact Below.refl _ _⟩ : _ ∧ Below (Go.Sort.grow (redrawn W3 d) os).heap.size (Go.Sort.grow (redrawn W3 d) os) _)))
  have cD := fun d os => Calls.regrown_of ((dkRoom_of s0.b (Go.Sort.grow (redrawn W3 d) os)).mono (fun _ _ h => (⟨h.1, by rw [h.2]; exact Below.refl _ _⟩ : _ ∧ Below (Go.Sort.grow (redrawn W3 d) os).heap.size (Go.Sort.grow (redrawn W3 d) os) _)))
  have cS := fun d os => Calls.regrown_of ((sameBlocks_of a2 nl c2 a3 nl c3 ol (Go.Sort.grow (redrawn W3 d) os) (H3.out.2.1.below (below_regrown W3 d os)) (H3.out.2.2.1.below (below_regrown W3 d os))).mono (fun _ _ h => (⟨h.1, by obtain ⟨k, hk⟩ := h.2; rw [hk]; exact below_drewN _ _⟩ : _ ∧ Below (Go.Sort.grow (redrawn W3 d) os).heap.size (Go.Sort.grow (redrawn W3 d) os) _)))
  have r2 := fun d os => cell_regrown e2 d os
  simp only [← hR] at cR cD
  clear hR e2
  refine wp_region_quiet_below (by kernel_rfl) (by kernel_rfl) ?_
  quiet_step (exact cK _ _)
  iterate 9 (quiet_step (fail))
  quiet_step (exact cS _ _)
  iterate 4 (quiet_step (fail))
  quiet_step (exact cR _ _)
  iterate 2 (quiet_step (fail))
  quiet_step (exact cD _ _)
  iterate 3 (quiet_step (fail))
  refine wpQuiet_nil ?_
  intro _ hw'
  obtain ⟨⟨dq, osq⟩, hw''⟩ := hw'
  subst hw''
  have bR := H3.out.2.2.2.trans ((below_regrown W3 dq osq).mono H3.out.2.2.2.size)
  clear cK cR cD cS r2
  generalize Go.Sort.grow _ _ = V at bR ⊢
  go_wp2
  go_ret
  exact ⟨rfl, bR⟩

set_option maxRecDepth 100000 in
theorem lifted (os : Os) (started : os.Started) (H : Type) (enc : TypeId × Value → H) :
    ReturnsInHanded {} Try.checked os 3 .any (Rows.ckptEncodesSpec.pre6 enc Try.prog Try.f3 Rows.ckptEncodesRow.domain false) (Rows.ckptEncodesSpec.post enc Try.prog Try.f3 false true false false) := by
  refine returnsInHanded_of_change (C := Try.checked) own started (by kernel_rfl) Try.func3
    (ChangeSpec.witness6 (enc := enc) (C := Try.checked) false ⟨#[], #[.agg #[.int .i64 0, .int .i64 0, .int .i64 0, .int .i64 0], .agg #[.int .u64 0, .slice none 0 0]], []⟩ 8 (by kernel_rfl) (by kernel_rfl) (by kernel_rfl) (by kernel_rfl)) ?_
  intro W base args ds gs before hval0 hW hcnd _
  have hval : ∀ (j : Nat) t v, Try.f3.params[j]? = some t → args[j]? = some v → Value.okWide Try.prog W .any base t v := hval0
  have hW' := hW
  obtain ⟨p, q, hA0, hV, rfl, hfz, hnd⟩ := hW
  have hA : DataW.TrodAll enc Try.prog W 0 (fun _ => true) true Try.f3.params.toList args.toList ds p := hA0
  rw [Try.params3] at hA hval
  obtain ⟨v0, vs0, d0, ds0, p0, q0, hargs, rfl, rfl, h0, r0⟩ := trodAll_cons hA
  obtain ⟨v1, vs1, d1, ds1, p1, q1, rfl, rfl, rfl, h1, r1⟩ := trodAll_cons r0
  obtain ⟨rfl, rfl, rfl⟩ := trodAll_nil r1
  obtain rfl : args = #[v0, v1] := by cases args; simp_all
  obtain ⟨rfl, rfl⟩ := trodVars_none hV
  have k0 := h0
  have lt0 : ∀ x ∈ p0, x.block < W.heap.size := by obtain ⟨m, hm⟩ := k0; exact DataW.trod_lt m _ _ _ hm
  obtain ⟨s0, rfl, w0⟩ := open_shape (hval 0 23 v0 rfl rfl) h0
  have k1 := h1
  have lt1 : ∀ x ∈ p1, x.block < W.heap.size := by obtain ⟨m, hm⟩ := k1; exact DataW.trod_lt m _ _ _ hm
  obtain ⟨s1, A1, n1, C1, x1, rfl, w1⟩ := open_state (hval 1 27 v1 rfl rfl) h1
  clear hA0 hval0
  refine (walk s0 s1 A1 n1 C1 x1 W w0 w1).mono fun e W' ⟨he, bel⟩ => ?_
  subst he
  exact ⟨_, rfl, _, _, _, [], _, [], hW', trodAll_mk1 (shut_bool Try.underlying4 _), (trodAll_cons_mk (Below.trod laidOut (by kernel_rfl) (of_decide_eq_true (by kernel_rfl)) k0 bel lt0) (trodAll_cons_mk (Below.trod laidOut (by kernel_rfl) (of_decide_eq_true (by kernel_rfl)) k1 bel lt1) trodAll_mk0)), rfl, bel.frame _, fun h => by cases h⟩

theorem over : Rows.ckptEncodesRow.holds Try.pinned (OpenSpec.ofChange Rows.ckptEncodesSpec) :=
  OpenClaim.holds_of_wide 3 Try.f3 rfl rfl rfl rfl rfl rfl rfl ⟨rfl, rfl, rfl, rfl, rfl⟩ rfl rfl rfl rfl rfl (by kernel_rfl) Try.func3 (by kernel_rfl)
    (of_decide_eq_true (by kernel_rfl)) (by unfold Func.isWrapper; first | (rw [if_pos (by decide +kernel)]; kernel_rfl) | (rw [if_neg (by decide +kernel)]; exact ⟨rfl, rfl⟩))
    (fun os started H enc _ => lifted os started H enc)

end Go.Proofs.Yteokhkoaieibmaa.ckptEncodes
namespace Go.Proofs.Yteokhkoaieibmaa
/-- The statement. -/
theorem ckptEncodes_holds : Rows.CkptEncodesSaid := ckptEncodes.over
#print axioms ckptEncodes_holds
end Go.Proofs.Yteokhkoaieibmaa
