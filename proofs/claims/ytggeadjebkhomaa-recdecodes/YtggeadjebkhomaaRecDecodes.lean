/- RecDecodes holds: Decode of bytes, of at most 5000, is what the document's own function says; they stay. -/
import Derived.Test.YtggeadjebkhomaaRows
import Derived.Test.YtggeadjebkhomaaRcDocD
import Derived.WalkKit
import Derived.ProofKit
import Derived.OpenShut
import Derived.ShutString
import Derived.ChangeOld
import Derived.Below
namespace Go.Proofs.Ytggeadjebkhomaa.recDecodes
open Go.ChangeShapes Go.WideShapes Go.ChangeAt Go.RowKit
open Go.ChangeMaps (open_string shut_string)
set_option linter.unusedVariables false

theorem own : ownKnob Try.prog.godebug = none := by kernel_rfl
theorem laidOut : laidOutB Try.prog = true := by kernel_rfl

set_option maxHeartbeats 2000000 in
theorem walk (a0 : Option Addr) (len0 cap0 : Nat) (z0 : List Int) (w : World) (w0 : BIn w a0 len0 z0 ∧ len0 ≤ cap0 ∧ (a0 = none → len0 = 0 ∧ cap0 = 0)) :
    Calls Try.prog 4 #[.slice a0 len0 cap0] w fun e w' => e = .returned (.bool true) ∧ Below w.heap.size w w' := by
  obtain ⟨bs, rfl⟩ : ∃ bs, bs = z0 := ⟨_, rfl⟩
  have H : Hid (BIn w a0 len0 bs ∧ len0 ≤ cap0 ∧ (a0 = none → len0 = 0 ∧ cap0 = 0)) := w0
  clear w0
  by_cases hl : 5000 < len0
  · have hl' : (5000 : Int) < len0 := by omega
    go_enter Try.func4, Try.ntmps4
    go_wp2
    go_ret
    exact ⟨rfl, Below.refl _ _⟩
  · have hl' : (len0 : Int) ≤ 5000 := by omega
    have HL : Hid (len0 ≤ 5000) := by show len0 ≤ 5000; omega
    clear hl
    go_enter Try.func4, Try.ntmps4
    go_wp2_with fail
    refine (lentBytes_of a0 len0 cap0 bs w H.out.1 H.out.2.2 (by have := HL.out; omega)).mono ?_
    rintro e W1 ⟨A1, C1, rfl, ow1, b1⟩
    have H1 : Hid (Below w.heap.size w W1 ∧ BIn W1 A1 len0 bs ∧ (A1 = none → len0 = 0 ∧ C1 = 0) ∧ len0 ≤ C1) := ⟨b1, own_bin ow1 (by have := HL.out; unfold maxLen; omega) H.out.1.2.2.1, cown_nil ow1, own_capN ow1⟩
    clear ow1 b1
    go_wp2_with fail
    refine (decode_of A1 len0 C1 bs W1 H1.out.2.1 H1.out.2.2.1 H1.out.2.2.2 (by have := HL.out; omega)).mono ?_
    rintro e W2 ⟨A2, n2, C2, rfl, it2, b2⟩
    obtain ⟨S, hS⟩ : ∃ S, S = decS bs := ⟨_, rfl⟩
    obtain ⟨E, hE⟩ : ∃ E, E = decE bs := ⟨_, rfl⟩
    obtain ⟨xs, hxs⟩ : ∃ xs, xs = decX bs := ⟨_, rfl⟩
    rw [← hS, ← hE]
    rw [← hxs] at it2
    have hEw : IntKind.i64.wrap E = E := by rw [hE]; unfold decE; split <;> rfl
    have hEE : (E == E) = true := by simp
    obtain ⟨q, hq⟩ : ∃ q, q = W2.heap.size := ⟨_, rfl⟩
    have hb2 : Below w.heap.size w W2 := H1.out.1.trans (b2.mono H1.out.1.size)
    have b3 := hb2.alloc hb2.size (.cells #[.int .u64 S, .slice A2 n2 C2] 25)
    have it3 := it2.alloc (.cells #[.int .u64 S, .slice A2 n2 C2] 25)
    have bin3 := (H1.out.2.1.below b2).alloc (.cells #[.int .u64 S, .slice A2 n2 C2] 25)
    have kb : Blk (W2.alloc (.cells #[.int .u64 S, .slice A2 n2 C2] 25)) q [.int .u64 S, .slice A2 n2 C2] 25 := Blk.new' hq.symm rfl
    have HV : Hid (S = decS bs ∧ E = decE bs ∧ xs = decX bs) := ⟨hS, hE, hxs⟩
    clear hS hE hxs it2 b2 hb2
    go_upto_region 5 with fail
    rw [← hq]
    generalize hW3 : World.alloc W2 _ = W3 at b3 it3 bin3 kb ⊢
    have H3 : Hid (Below w.heap.size w W3 ∧ ItsIn W3 A2 n2 xs ∧ BIn W3 A1 len0 bs ∧ Blk W3 q [.int .u64 S, .slice A2 n2 C2] 25) := ⟨b3, it3, bin3, kb⟩
    clear b3 it3 bin3 kb hW3 hq
    go_wp2_with fail
    refine (dDecode_of a0 len0 cap0 bs W3 (H.out.1.below H3.out.1) H.out.2.2 H.out.2.1 (by have := HL.out; omega)).mono ?_
    rintro e W4 ⟨A4, n4, C4, rfl, it4, b4⟩
    rw [← HV.out.1, ← HV.out.2.1]
    rw [← HV.out.2.2] at it4
    obtain ⟨q5, hq5⟩ : ∃ q5, q5 = W4.heap.size := ⟨_, rfl⟩
    have hb4 : Below w.heap.size w W4 := H3.out.1.trans (b4.mono H3.out.1.size)
    have b5 := hb4.alloc hb4.size (.cells #[.int .u64 S, .slice A4 n4 C4] 25)
    have i5 := it4.alloc (.cells #[.int .u64 S, .slice A4 n4 C4] 25)
    have j5 := (H3.out.2.1.below b4).alloc (.cells #[.int .u64 S, .slice A4 n4 C4] 25)
    have bin5 := (H3.out.2.2.1.below b4).alloc (.cells #[.int .u64 S, .slice A4 n4 C4] 25)
    have ka := (H3.out.2.2.2.below b4 H3.out.2.2.2.lt).alloc (.cells #[.int .u64 S, .slice A4 n4 C4] 25)
    have kb : Blk (W4.alloc (.cells #[.int .u64 S, .slice A4 n4 C4] 25)) q5 [.int .u64 S, .slice A4 n4 C4] 25 := Blk.new' hq5.symm rfl
    clear it4 b4 hb4
    go_upto_region 6 with fail
    rw [← hq5]
    generalize hW5 : World.alloc W4 _ = W5 at b5 i5 j5 bin5 ka kb ⊢
    have H5 : Hid (Below w.heap.size w W5 ∧ ItsIn W5 A2 n2 xs ∧ ItsIn W5 A4 n4 xs ∧ BIn W5 A1 len0 bs ∧ Blk W5 q [.int .u64 S, .slice A2 n2 C2] 25 ∧ Blk W5 q5 [.int .u64 S, .slice A4 n4 C4] 25) := ⟨b5, j5, i5, bin5, ka, kb⟩
    clear b5 i5 j5 bin5 ka kb hW5 hq5
    go_wp2_with fail
    refine (cknown_any _).mono ?_
    rintro e W6 ⟨rfl, b6⟩
    have ka := H5.out.2.2.2.2.1.below b6 H5.out.2.2.2.2.1.lt
    have kb := H5.out.2.2.2.2.2.below b6 H5.out.2.2.2.2.2.lt
    have H6 : Hid (Below w.heap.size w W6 ∧ ItsIn W6 A2 n2 xs ∧ ItsIn W6 A4 n4 xs ∧ BIn W6 A1 len0 bs) := ⟨H5.out.1.trans (b6.mono H5.out.1.size), H5.out.2.1.below b6, H5.out.2.2.1.below b6, H5.out.2.2.2.1.below b6⟩
    have k0 : W6.cell? ⟨q, 0, none⟩ = some (.int .u64 S) := ka.cell 0
    have k1 : W6.cell? ⟨q, 1, none⟩ = some (.slice A2 n2 C2) := ka.cell 1
    have l0 : W6.cell? ⟨q5, 0, none⟩ = some (.int .u64 S) := kb.cell 0
    have l1 : W6.cell? ⟨q5, 1, none⟩ = some (.slice A4 n4 C4) := kb.cell 1
    clear ka kb b6
    go_wp2_with fail
    refine (csame_of S A2 n2 C2 A4 n4 C4 xs W6 H6.out.2.1 H6.out.2.2.1).mono ?_
    rintro e W7 ⟨rfl, b7⟩
    have H7 : Hid (Below w.heap.size w W7 ∧ BIn W7 A1 len0 bs) := ⟨H6.out.1.trans (b7.mono H6.out.1.size), H6.out.2.2.2.below b7⟩
    clear k0 k1 l0 l1 b7
    go_wp2_with fail
    refine (sameBytes_of A1 len0 C1 bs a0 len0 cap0 bs W7 H7.out.2 (H.out.1.below H7.out.1) rfl).mono ?_
    rintro e W8 ⟨rfl, hw8⟩
    replace hw8 := hw8.symm
    subst hw8
    go_wp2
    go_ret
    exact ⟨rfl, H7.out.1⟩

set_option maxRecDepth 100000 in
theorem lifted (os : Os) (started : os.Started) (H : Type) (enc : TypeId × Value → H) :
    ReturnsInHanded {} Try.checked os 4 .any (Rows.recDecodesSpec.pre6 enc Try.prog Try.f4 Rows.recDecodesRow.domain false) (Rows.recDecodesSpec.post enc Try.prog Try.f4 false true false false) := by
  refine returnsInHanded_of_change (C := Try.checked) own started (by kernel_rfl) Try.func4
    (ChangeSpec.witness6 (enc := enc) (C := Try.checked) false ⟨#[], #[.slice none 0 0], []⟩ 8 (by kernel_rfl) (by kernel_rfl) (by kernel_rfl) (by kernel_rfl)) ?_
  intro W base args ds gs before hval0 hW hcnd _
  have hval : ∀ (j : Nat) t v, Try.f4.params[j]? = some t → args[j]? = some v → Value.okWide Try.prog W .any base t v := hval0
  have hW' := hW
  obtain ⟨p, q, hA0, hV, rfl, hfz, hnd⟩ := hW
  have hA : DataW.TrodAll enc Try.prog W 0 (fun _ => true) true Try.f4.params.toList args.toList ds p := hA0
  rw [Try.params4] at hA hval
  obtain ⟨v0, vs0, d0, ds0, p0, q0, hargs, rfl, rfl, h0, r0⟩ := trodAll_cons hA
  obtain ⟨rfl, rfl, rfl⟩ := trodAll_nil r0
  obtain rfl : args = #[v0] := by cases args; simp_all
  obtain ⟨rfl, rfl⟩ := trodVars_none hV
  obtain ⟨a0, len0, cap0, rfl⟩ := okWide_slice Try.underlying26 (hval 0 26 v0 rfl rfl)
  have k0 := h0
  have lt0 : ∀ x ∈ p0, x.block < W.heap.size := by obtain ⟨m, hm⟩ := k0; exact DataW.trod_lt m _ _ _ hm
  obtain ⟨z0, w0⟩ := open_bytes h0
  clear hA0 hval0
  refine (walk a0 len0 cap0 z0 W w0).mono fun e W' ⟨he, bel⟩ => ?_
  subst he
  exact ⟨_, rfl, _, _, _, [], _, [], hW', trodAll_mk1 (shut_bool Try.underlying4 _), (trodAll_cons_mk (Below.trod laidOut (by kernel_rfl) (of_decide_eq_true (by kernel_rfl)) k0 bel lt0) trodAll_mk0), rfl, bel.frame _, fun h => by cases h⟩

theorem over : Rows.recDecodesRow.holds Try.pinned (OpenSpec.ofChange Rows.recDecodesSpec) :=
  OpenClaim.holds_of_wide 4 Try.f4 rfl rfl rfl rfl rfl rfl rfl ⟨rfl, rfl, rfl, rfl, rfl⟩ rfl rfl rfl rfl rfl (by kernel_rfl) Try.func4 (by kernel_rfl)
    (of_decide_eq_true (by kernel_rfl)) (by unfold Func.isWrapper; first | (rw [if_pos (by decide +kernel)]; kernel_rfl) | (rw [if_neg (by decide +kernel)]; exact ⟨rfl, rfl⟩))
    (fun os started H enc _ => lifted os started H enc)

end Go.Proofs.Ytggeadjebkhomaa.recDecodes
namespace Go.Proofs.Ytggeadjebkhomaa
/-- The statement. -/
theorem recDecodes_holds : Rows.RecDecodesSaid := recDecodes.over
#print axioms recDecodes_holds
end Go.Proofs.Ytggeadjebkhomaa
