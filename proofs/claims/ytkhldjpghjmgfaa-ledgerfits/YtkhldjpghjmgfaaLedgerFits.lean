/- For every shape and every list of tenants the statement LedgerFits holds: Fits is what the chapter says. -/
import Derived.Test.YtkhldjpghjmgfaaRows
import Derived.Test.YtkhldjpghjmgfaaLgKn
import Derived.Test.YtkhldjpghjmgfaaLgOpen
import Derived.Test.YtkhldjpghjmgfaaLgF
import Derived.Test.YtkhldjpghjmgfaaLgDF
import Derived.WalkKit
import Derived.ProofKit
import Derived.OpenShut
import Derived.ShutString
import Derived.ChangeOld
import Derived.Below
namespace Go.Proofs.Ytkhldjpghjmgfaa.ledgerFits
open Go.ChangeShapes Go.WideShapes Go.ChangeAt Go.RowKit
open Go.ChangeMaps (open_string shut_string)
set_option linter.unusedVariables false

theorem own : ownKnob Try.prog.godebug = none := by kernel_rfl
theorem laidOut : laidOutB Try.prog = true := by kernel_rfl

set_option maxRecDepth 100000 in
set_option maxHeartbeats 2000000 in
theorem walk (s0 : Sh) (a1 : Option Addr) (n1 c1 : Nat) (x1 : List Tn) (w : World) (w0 : ShF s0) (w1 : TsL w a1 n1 x1 ∧ n1 ≤ c1 ∧ (a1 = none → n1 = 0 ∧ c1 = 0)) :
    Calls Try.prog 3 #[.agg (shL s0).toArray, .slice a1 n1 c1] w fun e w' => e = .returned (.bool true) ∧ Below w.heap.size w w' := by
  have k1 := lknown_any
  obtain ⟨hT, hcap, hnil⟩ := w1
  have hz : -9223372036854775808 ≤ s0.z := w0.1.1
  by_cases hl : (100 : Int) < n1
  · clear hT
    go_enter Try.func3, Try.ntmps3
    go_wp2
    go_ret
    exact ⟨rfl, (Below.refl _ _).alloc (Nat.le_refl _) _⟩
  · have hn : n1 ≤ 1000 := by omega
    have cF : ∀ V, Below w.heap.size w V → Calls Try.prog 10 #[.agg #[.int .i64 s0.z, .int .i64 s0.zb, .int .i64 s0.b, .int .i64 s0.r], .slice a1 n1 c1] V fun e w' => e = .returned (.bool (decide (FitT s0 x1))) ∧ Below V.heap.size V w' := fun V hV => lFits_of s0 hz a1 n1 c1 x1 V (hT.below hV) hn
    have cD : ∀ V, Below w.heap.size w V → Calls Try.prog 11 #[.agg #[.int .i64 s0.z, .int .i64 s0.zb, .int .i64 s0.b, .int .i64 s0.r], .slice a1 n1 c1] V fun e w' => e = .returned (.bool (decide (FitT s0 x1))) ∧ Below V.heap.size V w' := fun V hV => dlFits_of s0 hz a1 n1 c1 x1 V (hT.below hV) hn
    generalize decide (FitT s0 x1) = ok at cF cD
    clear hT
    show Calls Try.prog 3 #[.agg #[.int .i64 s0.z, .int .i64 s0.zb, .int .i64 s0.b, .int .i64 s0.r], .slice a1 n1 c1] w _
    go_enter Try.func3, Try.ntmps3
    go_wp2_with fail
    have hk : Blk (w.alloc (.cells #[.int .i64 s0.z, .int .i64 s0.zb, .int .i64 s0.b, .int .i64 s0.r] 23)) w.heap.size [.int .i64 s0.z, .int .i64 s0.zb, .int .i64 s0.b, .int .i64 s0.r] 23 := Blk.new' rfl rfl
    have B0 : Below w.heap.size w (w.alloc (.cells #[.int .i64 s0.z, .int .i64 s0.zb, .int .i64 s0.b, .int .i64 s0.r] 23)) := (Below.refl _ _).alloc (Nat.le_refl _) _
    obtain ⟨q, hq⟩ : ∃ q, q = w.heap.size := ⟨_, rfl⟩
    rw [← hq] at hk ⊢
    generalize w.alloc (.cells #[.int .i64 s0.z, .int .i64 s0.zb, .int .i64 s0.b, .int .i64 s0.r] 23) = V at hk B0 ⊢
    have z0 : V.cell? ⟨q, 0, none⟩ = some (.int .i64 s0.z) ∧ V.cell? ⟨q, 1, none⟩ = some (.int .i64 s0.zb) ∧ V.cell? ⟨q, 2, none⟩ = some (.int .i64 s0.b) ∧ V.cell? ⟨q, 3, none⟩ = some (.int .i64 s0.r) := ⟨hk.cell 0, hk.cell 1, hk.cell 2, hk.cell 3⟩
    have HK : Hid (Blk V q [.int .i64 s0.z, .int .i64 s0.zb, .int .i64 s0.b, .int .i64 s0.r] 23 ∧ Below w.heap.size w V) := ⟨hk, B0⟩
    have cK := k1 V.drew
    clear hk B0 hq
    go_region_held3 (fun X => X.cell? ⟨q, 0, none⟩ = some (.int .i64 s0.z) ∧ X.cell? ⟨q, 1, none⟩ = some (.int .i64 s0.zb) ∧ X.cell? ⟨q, 2, none⟩ = some (.int .i64 s0.b) ∧ X.cell? ⟨q, 3, none⟩ = some (.int .i64 s0.r)) (first | exact z0 | exact z1 | exact z2 | exact z3)
      (first
      | (go_simp; go_at_call 9; refine cK.mono ?_; clear cK; rintro e v1 ⟨rfl, b1⟩; have b1' : Below V.heap.size V v1 := ⟨b1.os, b1.tape, b1.output, b1.size, b1.block⟩; have H1 : Hid (Blk v1 q [.int .i64 s0.z, .int .i64 s0.zb, .int .i64 s0.b, .int .i64 s0.r] 23 ∧ Below w.heap.size w v1) := ⟨HK.out.1.below b1' HK.out.1.lt, HK.out.2.trans (b1'.mono HK.out.2.size)⟩; have z1 : v1.cell? ⟨q, 0, none⟩ = some (.int .i64 s0.z) ∧ v1.cell? ⟨q, 1, none⟩ = some (.int .i64 s0.zb) ∧ v1.cell? ⟨q, 2, none⟩ = some (.int .i64 s0.b) ∧ v1.cell? ⟨q, 3, none⟩ = some (.int .i64 s0.r) := ⟨H1.out.1.cell 0, H1.out.1.cell 1, H1.out.1.cell 2, H1.out.1.cell 3⟩; clear b1 b1')
      | (go_simp; go_at_call 10; refine (cF _ H1.out.2).mono ?_; rintro e v2 ⟨rfl, b2⟩; have H2 : Hid (Blk v2 q [.int .i64 s0.z, .int .i64 s0.zb, .int .i64 s0.b, .int .i64 s0.r] 23 ∧ Below w.heap.size w v2) := ⟨H1.out.1.below b2 H1.out.1.lt, H1.out.2.trans (b2.mono H1.out.2.size)⟩; have z2 : v2.cell? ⟨q, 0, none⟩ = some (.int .i64 s0.z) ∧ v2.cell? ⟨q, 1, none⟩ = some (.int .i64 s0.zb) ∧ v2.cell? ⟨q, 2, none⟩ = some (.int .i64 s0.b) ∧ v2.cell? ⟨q, 3, none⟩ = some (.int .i64 s0.r) := ⟨H2.out.1.cell 0, H2.out.1.cell 1, H2.out.1.cell 2, H2.out.1.cell 3⟩; clear b2)
      | (go_simp; go_at_call 11; refine (cD _ H2.out.2).mono ?_; rintro e v3 ⟨rfl, b3⟩; have H3 : Hid (Blk v3 q [.int .i64 s0.z, .int .i64 s0.zb, .int .i64 s0.b, .int .i64 s0.r] 23 ∧ Below w.heap.size w v3) := ⟨H2.out.1.below b3 H2.out.1.lt, H2.out.2.trans (b3.mono H2.out.2.size)⟩; have z3 : v3.cell? ⟨q, 0, none⟩ = some (.int .i64 s0.z) ∧ v3.cell? ⟨q, 1, none⟩ = some (.int .i64 s0.zb) ∧ v3.cell? ⟨q, 2, none⟩ = some (.int .i64 s0.b) ∧ v3.cell? ⟨q, 3, none⟩ = some (.int .i64 s0.r) := ⟨H3.out.1.cell 0, H3.out.1.cell 1, H3.out.1.cell 2, H3.out.1.cell 3⟩; clear b3))
    all_goals go_wp2
    all_goals go_ret
    all_goals exact ⟨by simp, H3.out.2⟩

set_option maxRecDepth 100000 in
theorem lifted (os : Os) (started : os.Started) (H : Type) (enc : TypeId × Value → H) :
    ReturnsInHanded {} Try.checked os 3 .any (Rows.ledgerFitsSpec.pre6 enc Try.prog Try.f3 Rows.ledgerFitsRow.domain false) (Rows.ledgerFitsSpec.post enc Try.prog Try.f3 false true false false) := by
  refine returnsInHanded_of_change (C := Try.checked) own started (by kernel_rfl) Try.func3
    (ChangeSpec.witness6 (enc := enc) (C := Try.checked) false ⟨#[], #[.agg #[.int .i64 0, .int .i64 0, .int .i64 0, .int .i64 0], .slice none 0 0], []⟩ 8 (by kernel_rfl) (by kernel_rfl) (by kernel_rfl) (by kernel_rfl)) ?_
  intro W base args ds gs before hval0 hW hcnd _
  have hval : ∀ (j : Nat) t v, Try.f3.params[j]? = some t → args[j]? = some v → Value.okWide Try.prog W .any base t v := hval0
  have hW' := hW
  obtain ⟨p, q, hA0, hV, rfl, hfz, hnd⟩ := hW
  have hA : DataW.TrodAll enc Try.prog W 0 (fun _ => true) true Try.f3.params.toList args.toList ds p := hA0
  rw [Try.params3] at hA hval
  obtain ⟨v0, vs0, d0, ds0, p0, q0, hargs, rfl, rfl, h0, r0⟩ := trodAll_cons hA
  obtain ⟨v1, vs1, d1, ds1, p1, q1, rfl, rfl, rfl, h1, r1⟩ := trodAll_cons r0
  obtain ⟨rfl, rfl, rfl⟩ := trodAll_nil r1
  obtain rfl : args = #[v0, v1] := by cases args; simp_all
  obtain ⟨rfl, rfl⟩ := trodVars_none hV
  have k0 := h0
  have lt0 : ∀ x ∈ p0, x.block < W.heap.size := by obtain ⟨m, hm⟩ := k0; exact DataW.trod_lt m _ _ _ hm
  obtain ⟨s0, rfl, w0⟩ := open_shape (hval 0 23 v0 rfl rfl) h0
  obtain ⟨a1, n1, c1, rfl⟩ := okWide_slice Try.underlying24 (hval 1 24 v1 rfl rfl)
  have k1 := h1
  have lt1 : ∀ x ∈ p1, x.block < W.heap.size := by obtain ⟨m, hm⟩ := k1; exact DataW.trod_lt m _ _ _ hm
  obtain ⟨x1, w1⟩ := open_tens h1
  clear hA0 hval0
  refine (walk s0 a1 n1 c1 x1 W w0 w1).mono fun e W' ⟨he, bel⟩ => ?_
  subst he
  exact ⟨_, rfl, _, _, _, [], _, [], hW', trodAll_mk1 (shut_bool Try.underlying4 _), (trodAll_cons_mk (Below.trod laidOut (by kernel_rfl) (of_decide_eq_true (by kernel_rfl)) k0 bel lt0) (trodAll_cons_mk (Below.trod laidOut (by kernel_rfl) (of_decide_eq_true (by kernel_rfl)) k1 bel lt1) trodAll_mk0)), rfl, bel.frame _, fun h => by cases h⟩

theorem over : Rows.ledgerFitsRow.holds Try.pinned (OpenSpec.ofChange Rows.ledgerFitsSpec) :=
  OpenClaim.holds_of_wide 3 Try.f3 rfl rfl rfl rfl rfl rfl rfl ⟨rfl, rfl, rfl, rfl, rfl⟩ rfl rfl rfl rfl rfl (by kernel_rfl) Try.func3 (by kernel_rfl)
    (of_decide_eq_true (by kernel_rfl)) (by unfold Func.isWrapper; first | (rw [if_pos (by decide +kernel)]; kernel_rfl) | (rw [if_neg (by decide +kernel)]; exact ⟨rfl, rfl⟩))
    (fun os started H enc _ => lifted os started H enc)

end Go.Proofs.Ytkhldjpghjmgfaa.ledgerFits
namespace Go.Proofs.Ytkhldjpghjmgfaa
/-- The statement. -/
theorem ledgerFits_holds : Rows.LedgerFitsSaid := ledgerFits.over
#print axioms ledgerFits_holds
end Go.Proofs.Ytkhldjpghjmgfaa
