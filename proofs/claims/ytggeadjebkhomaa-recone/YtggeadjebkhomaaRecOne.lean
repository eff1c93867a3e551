/- RecOne holds: bytes of at most 5000 that Decode takes are what Encode writes of what it read, in a block of their length; of other bytes it says its error and nothing else. -/
import Derived.Test.YtggeadjebkhomaaRows
import Derived.Test.YtggeadjebkhomaaRcOpen
import Derived.WalkKit
import Derived.ProofKit
import Derived.OpenShut
import Derived.ShutString
import Derived.ChangeOld
import Derived.Below
namespace Go.Proofs.Ytggeadjebkhomaa.recOne
open Go.ChangeShapes Go.WideShapes Go.ChangeAt Go.RowKit
open Go.ChangeMaps (open_string shut_string)
set_option linter.unusedVariables false

theorem own : ownKnob Try.prog.godebug = none := by kernel_rfl
theorem laidOut : laidOutB Try.prog = true := by kernel_rfl

set_option maxHeartbeats 2000000 in
theorem walk (a0 : Option Addr) (len0 cap0 : Nat) (z0 : List Int) (w : World) (w0 : BIn w a0 len0 z0 ∧ len0 ≤ cap0 ∧ (a0 = none → len0 = 0 ∧ cap0 = 0)) :
    Calls Try.prog 6 #[.slice a0 len0 cap0] w fun e w' => e = .returned (.bool true) ∧ Below w.heap.size w w' := by
  obtain ⟨bs, rfl⟩ : ∃ bs, bs = z0 := ⟨_, rfl⟩
  have H : Hid (BIn w a0 len0 bs ∧ len0 ≤ cap0 ∧ (a0 = none → len0 = 0 ∧ cap0 = 0)) := w0
  clear w0
  by_cases hl : 5000 < len0
  · have hl' : (5000 : Int) < len0 := by omega
    go_enter Try.func6, Try.ntmps6
    go_wp2_with (go_at_call 11; refine (cknown_any _).mono ?_; rintro e W1 ⟨rfl, b1⟩)
    go_ret
    exact ⟨rfl, b1⟩
  · have hl' : (len0 : Int) ≤ 5000 := by omega
    have hl5 : len0 ≤ 100000 := by omega
    have HL : Hid (len0 ≤ 100000) := hl5
    clear hl hl5
    go_enter Try.func6, Try.ntmps6
    go_upto_region 3 with (go_at_call 11; refine (cknown_any _).mono ?_; rintro e W1 ⟨rfl, b1⟩)
    have H1 : Hid (Below w.heap.size w W1) := b1
    clear b1
    go_wp2_with fail
    refine (decode_of a0 len0 cap0 bs W1 (H.out.1.below H1.out) H.out.2.2 H.out.2.1 HL.out).mono ?_
    rintro e W2 ⟨A, n, C, rfl, it2, b2⟩
    have hb2 : Below w.heap.size w W2 := H1.out.trans (b2.mono H1.out.size)
    obtain ⟨q, hq⟩ : ∃ q, q = W2.heap.size := ⟨_, rfl⟩
    by_cases hr : IsR bs
    · have HR : Hid (IsR bs) := hr
      have e1 : decE bs = 0 := by unfold decE; rw [if_pos hr]
      have e2 : decX bs = rdIts bs := by unfold decX; rw [if_pos hr]
      have e3 : decS bs = rdSeq bs := by unfold decS; rw [if_pos hr]
      rw [e1, e3]
      rw [e2] at it2
      obtain ⟨S, hS⟩ : ∃ S, S = rdSeq bs := ⟨_, rfl⟩
      rw [← hS]
      have HS : Hid (S = rdSeq bs) := hS
      have b3 := hb2.alloc hb2.size (.cells #[.int .u64 S, .slice A n C] 25)
      have it3 := it2.alloc (.cells #[.int .u64 S, .slice A n C] 25)
      have kb : Blk (W2.alloc (.cells #[.int .u64 S, .slice A n C] 25)) q [.int .u64 S, .slice A n C] 25 := Blk.new' hq.symm rfl
      clear hr e1 e2 e3 hS it2 b2 hb2
      go_upto_region 6 with fail
      rw [← hq]
      generalize hW3 : World.alloc W2 _ = W3 at b3 it3 kb ⊢
      have H3 : Hid (Below w.heap.size w W3 ∧ ItsIn W3 A n (rdIts bs)) := ⟨b3, it3⟩
      have c0 : W3.cell? ⟨q, 0, none⟩ = some (.int .u64 S) := kb.cell 0
      have c1 : W3.cell? ⟨q, 1, none⟩ = some (.slice A n C) := kb.cell 1
      clear b3 it3 kb hW3 hq
      go_wp2_with fail
      refine (encode_of S A n C (rdIts bs) (len0 : Int) W3 (by rw [HS.out]; exact rdSeq_fits H.out.1.2.2.1) H3.out.2).mono ?_
      rintro e W4 ⟨A4, n4, C4, rfl, ow4, b4, hC4⟩
      clear hC4
      have hg : GoodR (rdIts bs) (len0 : Int) := by have := HR.out.1; rw [H.out.1.1] at this; exact this
      have e1 : encE (rdIts bs) (len0 : Int) = 0 := by unfold encE; rw [if_pos hg]
      have e2 : encB S (rdIts bs) (len0 : Int) = bs := by
        unfold encB
        rw [if_pos hg, Int.toNat_natCast, HS.out]
        have := HR.out.2
        rw [H.out.1.1] at this
        exact this
      rw [e1]
      rw [e2] at ow4
      have hn4 : n4 ≤ 100000 := by have := ow4.1; rw [u8s_length, H.out.1.1] at this; have := HL.out; omega
      have H4 : Hid (Below w.heap.size w W4 ∧ BIn W4 A4 n4 bs) := ⟨H3.out.1.trans (b4.mono H3.out.1.size), own_bin ow4 (by unfold maxLen; omega) H.out.1.2.2.1⟩
      clear ow4 b4 hg e1 e2 hn4 c0 c1
      go_wp2_with (go_at_call 12; refine (sameBytes_of a0 len0 cap0 bs A4 n4 C4 bs W4 (H.out.1.below H4.out.1) H4.out.2 rfl).mono ?_; rintro e W5 ⟨rfl, hw5⟩; replace hw5 := hw5.symm; subst hw5)
      go_ret
      exact ⟨rfl, H4.out.1⟩
    · have e1 : decE bs = 111 := by unfold decE; rw [if_neg hr]
      have e2 : decX bs = [] := by unfold decX; rw [if_neg hr]
      have e3 : decS bs = 0 := by unfold decS; rw [if_neg hr]
      rw [e1, e3]
      rw [e2] at it2
      obtain rfl : 0 = n := it2.1
      have b3 := hb2.alloc hb2.size (.cells #[.int .u64 0, .slice A 0 C] 25)
      have HB : Hid (Below w.heap.size w (W2.alloc (.cells #[.int .u64 0, .slice A 0 C] 25))) := b3
      clear hr e1 e2 e3 it2 b2 hb2 b3 hq
      go_wp2
      go_ret
      exact ⟨rfl, HB.out⟩

set_option maxRecDepth 100000 in
theorem lifted (os : Os) (started : os.Started) (H : Type) (enc : TypeId × Value → H) :
    ReturnsInHanded {} Try.checked os 6 .any (Rows.recOneSpec.pre6 enc Try.prog Try.f6 Rows.recOneRow.domain false) (Rows.recOneSpec.post enc Try.prog Try.f6 false true false false) := by
  refine returnsInHanded_of_change (C := Try.checked) own started (by kernel_rfl) Try.func6
    (ChangeSpec.witness6 (enc := enc) (C := Try.checked) false ⟨#[], #[.slice none 0 0], []⟩ 8 (by kernel_rfl) (by kernel_rfl) (by kernel_rfl) (by kernel_rfl)) ?_
  intro W base args ds gs before hval0 hW hcnd _
  have hval : ∀ (j : Nat) t v, Try.f6.params[j]? = some t → args[j]? = some v → Value.okWide Try.prog W .any base t v := hval0
  have hW' := hW
  obtain ⟨p, q, hA0, hV, rfl, hfz, hnd⟩ := hW
  have hA : DataW.TrodAll enc Try.prog W 0 (fun _ => true) true Try.f6.params.toList args.toList ds p := hA0
  rw [Try.params6] at hA hval
  obtain ⟨v0, vs0, d0, ds0, p0, q0, hargs, rfl, rfl, h0, r0⟩ := trodAll_cons hA
  obtain ⟨rfl, rfl, rfl⟩ := trodAll_nil r0
  obtain rfl : args = #[v0] := by cases args; simp_all
  obtain ⟨rfl, rfl⟩ := trodVars_none hV
  obtain ⟨a0, len0, cap0, rfl⟩ := okWide_slice Try.underlying26 (hval 0 26 v0 rfl rfl)
  have k0 := h0
  have lt0 : ∀ x ∈ p0, x.block < W.heap.size := by obtain ⟨m, hm⟩ := k0; exact DataW.trod_lt m _ _ _ hm
  obtain ⟨z0, w0⟩ := open_bytes h0
  clear hA0 hval0
  refine (walk a0 len0 cap0 z0 W w0).mono fun e W' ⟨he, bel⟩ => ?_
  subst he
  exact ⟨_, rfl, _, _, _, [], _, [], hW', trodAll_mk1 (shut_bool Try.underlying4 _), (trodAll_cons_mk (Below.trod laidOut (by kernel_rfl) (of_decide_eq_true (by kernel_rfl)) k0 bel lt0) trodAll_mk0), rfl, bel.frame _, fun h => by cases h⟩

theorem over : Rows.recOneRow.holds Try.pinned (OpenSpec.ofChange Rows.recOneSpec) :=
  OpenClaim.holds_of_wide 6 Try.f6 rfl rfl rfl rfl rfl rfl rfl ⟨rfl, rfl, rfl, rfl, rfl⟩ rfl rfl rfl rfl rfl (by kernel_rfl) Try.func6 (by kernel_rfl)
    (of_decide_eq_true (by kernel_rfl)) (by unfold Func.isWrapper; first | (rw [if_pos (by decide +kernel)]; kernel_rfl) | (rw [if_neg (by decide +kernel)]; exact ⟨rfl, rfl⟩))
    (fun os started H enc _ => lifted os started H enc)

end Go.Proofs.Ytggeadjebkhomaa.recOne
namespace Go.Proofs.Ytggeadjebkhomaa
/-- The statement. -/
theorem recOne_holds : Rows.RecOneSaid := recOne.over
#print axioms recOne_holds
end Go.Proofs.Ytggeadjebkhomaa
