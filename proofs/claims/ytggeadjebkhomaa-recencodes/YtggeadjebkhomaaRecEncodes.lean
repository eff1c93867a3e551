/- RecEncodes holds: Encode of a record of at most 300 items, for any block, and Room, are what the document's own functions say. -/
import Derived.Test.YtggeadjebkhomaaRows
import Derived.Test.YtggeadjebkhomaaRcDocE
import Derived.WalkKit
import Derived.ProofKit
import Derived.OpenShut
import Derived.ShutString
import Derived.ChangeOld
import Derived.Below
namespace Go.Proofs.Ytggeadjebkhomaa.recEncodes
open Go.ChangeShapes Go.WideShapes Go.ChangeAt Go.RowKit
open Go.ChangeMaps (open_string shut_string)
set_option linter.unusedVariables false

theorem own : ownKnob Try.prog.godebug = none := by kernel_rfl
theorem laidOut : laidOutB Try.prog = true := by kernel_rfl

theorem encB_ok (s : Int) (xs : List It) (b : Int) : (encB s xs b).length ≤ 4096 ∧ ∀ z ∈ encB s xs b, Fits8 z := by
  unfold encB
  split
  · rename_i h
    have := h.bounds
    exact ⟨by rw [enc_length (by omega)]; omega, enc_fits _ _ _⟩
  · exact ⟨by simp, by simp⟩
set_option maxHeartbeats 2000000 in
theorem walk (s0 : Int) (A0 : Option Addr) (n0 C0 : Nat) (x0 : List It) (a1 : Int) (w : World) (w0 : FitsU s0 ∧ ItsIn w A0 n0 x0 ∧ n0 ≤ C0 ∧ (A0 = none → n0 = 0 ∧ C0 = 0)) (w1 : (Lit.int .i64 a1).wf = true) :
    Calls Try.prog 3 #[.agg #[.int .u64 s0, .slice A0 n0 C0], .int .i64 a1] w fun e w' => e = .returned (.bool true) ∧ Below w.heap.size w w' := by
  obtain ⟨q, hq⟩ : ∃ q, q = w.heap.size := ⟨_, rfl⟩
  have kb : Blk (w.alloc (.cells #[.int .u64 s0, .slice A0 n0 C0] 25)) q [.int .u64 s0, .slice A0 n0 C0] 25 := Blk.new' hq.symm rfl
  have bw : Below w.heap.size w (w.alloc (.cells #[.int .u64 s0, .slice A0 n0 C0] 25)) := (Below.refl _ _).alloc (Nat.le_refl _) _
  have H : Hid (FitsU s0 ∧ ItsIn w A0 n0 x0) := ⟨w0.1, w0.2.1⟩
  clear w0 w1
  go_enter Try.func3, Try.ntmps3
  go_upto_region 1 with fail
  rw [← hq]
  generalize hW : World.alloc w _ = W at kb bw ⊢
  have HW : Hid (Blk W q [.int .u64 s0, .slice A0 n0 C0] 25 ∧ Below w.heap.size w W) := ⟨kb, bw⟩
  have c0 : W.cell? ⟨q, 0, none⟩ = some (.int .u64 s0) := kb.cell 0
  have c1 : W.cell? ⟨q, 1, none⟩ = some (.slice A0 n0 C0) := kb.cell 1
  clear kb bw hW hq
  by_cases hl : 300 < n0
  · have hl' : (300 : Int) < n0 := by omega
    go_wp2
    go_ret
    exact ⟨rfl, HW.out.2⟩
  · have hl' : (n0 : Int) ≤ 300 := by omega
    clear hl
    go_wp2_with fail
    refine (encode_of s0 A0 n0 C0 x0 a1 W H.out.1 (H.out.2.below HW.out.2)).mono ?_
    rintro e W2 ⟨A, n, C, rfl, ow, b2, rfl⟩
    have kb2 := HW.out.1.below b2 HW.out.1.lt
    have d0 : W2.cell? ⟨q, 0, none⟩ = some (.int .u64 s0) := kb2.cell 0
    have d1 : W2.cell? ⟨q, 1, none⟩ = some (.slice A0 n0 C0) := kb2.cell 1
    obtain ⟨E, hE⟩ : ∃ E, E = encE x0 a1 := ⟨_, rfl⟩
    have hEw : IntKind.i64.wrap E = E := by rw [hE]; unfold encE; split <;> rfl
    have hEE : (E == E) = true := by simp
    rw [← hE]
    obtain ⟨bs, hbs⟩ : ∃ bs, bs = encB s0 x0 a1 := ⟨_, rfl⟩
    have hbo := encB_ok s0 x0 a1
    rw [← hbs] at ow hbo
    have hC : C ≤ maxLen := by have := ow.1; rw [u8s_length] at this; unfold maxLen; omega
    have H2 : Hid (Below w.heap.size w W2 ∧ BIn W2 A C bs ∧ E = encE x0 a1 ∧ bs = encB s0 x0 a1 ∧ bs.length ≤ 4096 ∧ (∀ z ∈ bs, Fits8 z)) := ⟨HW.out.2.trans (b2.mono HW.out.2.size), own_bin ow hC hbo.2, hE, hbs, hbo.1, hbo.2⟩
    clear kb2 b2 ow hE hbs hbo hC c0 c1
    go_wp2_with fail
    refine (dEncode_of s0 A0 n0 C0 x0 a1 W2 H.out.1 (H.out.2.below H2.out.1)).mono ?_
    rintro e W3 ⟨A3, n3, C3, rfl, ow3, b3⟩
    rw [← H2.out.2.2.1]
    rw [← H2.out.2.2.2.1] at ow3
    have h3 : n3 ≤ maxLen := by have := H2.out.2.2.2.2.1; have h4 := ow3.1; rw [u8s_length] at h4; unfold maxLen; omega
    have H3 : Hid (Below w.heap.size w W3 ∧ BIn W3 A C bs ∧ BIn W3 A3 n3 bs) := ⟨H2.out.1.trans (b3.mono H2.out.1.size), H2.out.2.1.below b3, own_bin ow3 h3 H2.out.2.2.2.2.2⟩
    clear b3 ow3 h3 d0 d1
    obtain ⟨R, hR⟩ : ∃ R, R = roomI a1 := ⟨_, rfl⟩
    have cR := fun V => room_of a1 V
    have cD := fun V => dRoom_of a1 V
    simp only [← hR] at cR cD
    have hRR : (R == R) = true := by simp
    clear hR
    go_wp2_with fail
    refine (cknown_any _).mono ?_
    rintro e W4 ⟨rfl, b4⟩
    have H4 : Hid (Below w.heap.size w W4 ∧ BIn W4 A C bs ∧ BIn W4 A3 n3 bs) := ⟨H3.out.1.trans (b4.mono H3.out.1.size), H3.out.2.1.below b4, H3.out.2.2.below b4⟩
    clear b4
    go_wp2_with (first
      | (go_at_call 12; refine (sameBytes_of A C C bs A3 n3 C3 bs W4 H4.out.2.1 H4.out.2.2 rfl).mono ?_; rintro e W5 ⟨rfl, hw5⟩; replace hw5 := hw5.symm; subst hw5)
      | (go_at_call 13; refine (cR W4).mono ?_; rintro e W6 ⟨rfl, hw6⟩; replace hw6 := hw6.symm; subst hw6)
      | (go_at_call 14; refine (cD W4).mono ?_; rintro e W7 ⟨rfl, hw7⟩; replace hw7 := hw7.symm; subst hw7))
    go_ret
    exact ⟨rfl, H4.out.1⟩

set_option maxRecDepth 100000 in
theorem lifted (os : Os) (started : os.Started) (H : Type) (enc : TypeId × Value → H) :
    ReturnsInHanded {} Try.checked os 3 .any (Rows.recEncodesSpec.pre6 enc Try.prog Try.f3 Rows.recEncodesRow.domain false) (Rows.recEncodesSpec.post enc Try.prog Try.f3 false true false false) := by
  refine returnsInHanded_of_change (C := Try.checked) own started (by kernel_rfl) Try.func3
    (ChangeSpec.witness6 (enc := enc) (C := Try.checked) false ⟨#[], #[.agg #[.int .u64 0, .slice none 0 0], .int .i64 0], []⟩ 8 (by kernel_rfl) (by kernel_rfl) (by kernel_rfl) (by kernel_rfl)) ?_
  intro W base args ds gs before hval0 hW hcnd _
  have hval : ∀ (j : Nat) t v, Try.f3.params[j]? = some t → args[j]? = some v → Value.okWide Try.prog W .any base t v := hval0
  have hW' := hW
  obtain ⟨p, q, hA0, hV, rfl, hfz, hnd⟩ := hW
  have hA : DataW.TrodAll enc Try.prog W 0 (fun _ => true) true Try.f3.params.toList args.toList ds p := hA0
  rw [Try.params3] at hA hval
  obtain ⟨v0, vs0, d0, ds0, p0, q0, hargs, rfl, rfl, h0, r0⟩ := trodAll_cons hA
  obtain ⟨v1, vs1, d1, ds1, p1, q1, rfl, rfl, rfl, h1, r1⟩ := trodAll_cons r0
  obtain ⟨rfl, rfl, rfl⟩ := trodAll_nil r1
  obtain rfl : args = #[v0, v1] := by cases args; simp_all
  obtain ⟨rfl, rfl⟩ := trodVars_none hV
  have k0 := h0
  have lt0 : ∀ x ∈ p0, x.block < W.heap.size := by obtain ⟨m, hm⟩ := k0; exact DataW.trod_lt m _ _ _ hm
  obtain ⟨s0, A0, n0, C0, x0, rfl, w0⟩ := open_record (hval 0 25 v0 rfl rfl) h0
  obtain ⟨a1, rfl, rfl, rfl, w1⟩ := open_int Try.underlying3 (hval 1 3 v1 rfl rfl) h1
  clear hA0 hval0
  refine (walk s0 A0 n0 C0 x0 a1 W w0 w1).mono fun e W' ⟨he, bel⟩ => ?_
  subst he
  exact ⟨_, rfl, _, _, _, [], _, [], hW', trodAll_mk1 (shut_bool Try.underlying4 _), (trodAll_cons_mk (Below.trod laidOut (by kernel_rfl) (of_decide_eq_true (by kernel_rfl)) k0 bel lt0) (trodAll_cons_mk (shut_int Try.underlying3 w1) trodAll_mk0)), rfl, bel.frame _, fun h => by cases h⟩

theorem over : Rows.recEncodesRow.holds Try.pinned (OpenSpec.ofChange Rows.recEncodesSpec) :=
  OpenClaim.holds_of_wide 3 Try.f3 rfl rfl rfl rfl rfl rfl rfl ⟨rfl, rfl, rfl, rfl, rfl⟩ rfl rfl rfl rfl rfl (by kernel_rfl) Try.func3 (by kernel_rfl)
    (of_decide_eq_true (by kernel_rfl)) (by unfold Func.isWrapper; first | (rw [if_pos (by decide +kernel)]; kernel_rfl) | (rw [if_neg (by decide +kernel)]; exact ⟨rfl, rfl⟩))
    (fun os started H enc _ => lifted os started H enc)

end Go.Proofs.Ytggeadjebkhomaa.recEncodes
namespace Go.Proofs.Ytggeadjebkhomaa
/-- The statement. -/
theorem recEncodes_holds : Rows.RecEncodesSaid := recEncodes.over
#print axioms recEncodes_holds
end Go.Proofs.Ytggeadjebkhomaa
