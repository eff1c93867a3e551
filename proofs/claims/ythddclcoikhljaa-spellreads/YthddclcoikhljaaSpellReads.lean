/- Proved: whatever text SpellReads of layer 4 is handed, it returns true, and its argument reads as before: the chapter's examples hold, and Read of any text (of at most 1000 signs) is what the chapter says. -/
import Derived.Test.YthddclcoikhljaaRows
import Derived.Test.YthddclcoikhljaaSpRefRead
import Derived.WalkKit
import Derived.ProofKit
import Derived.OpenShut
import Derived.ShutString
import Derived.ChangeOld
import Derived.Below
namespace Go.Proofs.Ythddclcoikhljaa.spellReads
open Go.ChangeShapes Go.WideShapes Go.ChangeAt Go.RowKit
open Go.ChangeMaps (open_string shut_string)
set_option linter.unusedVariables false      -- a walk need not use every 'w<i>' (that an integer argument fits its kind)

theorem own : ownKnob Try.prog.godebug = none := by kernel_rfl

theorem walk (a0 : ByteArray) (w0 : a0.size ≤ maxLen) (w : World) :
    Calls Try.prog 4 #[.string a0] w fun e w' => e = .returned (.bool true) ∧ Below w.heap.size w w' := by
  obtain ⟨q, hq⟩ : ∃ q, q = w.heap.size := ⟨_, rfl⟩
  have HQ : Hid (q = w.heap.size) := hq
  rw [← hq]
  clear hq w0
  by_cases l0 : (1000 : Int) < a0.size
  · go_enter Try.func4, Try.ntmps4
    go_wp2
    go_ret
    exact ⟨rfl, Below.refl _ _⟩
  · have hl0 : (a0.size : Int) ≤ 1000 := by omega
    go_enter Try.func4, Try.ntmps4
    go_upto_region 4 with (go_at_call 11; refine (spRead_of a0 (numsOf a0) a0.size w (numsOf_str a0) (numsOf_fits a0) (numsOf_length a0) (by omega)).mono ?_; rintro e w1 ⟨a1, m1, c1, rfl, hb1, -, b1⟩)
    go_upto_region 5 with (go_at_call 12; refine (refRead_of a0 (numsOf a0) a0.size w1 (numsOf_str a0) (numsOf_fits a0) (numsOf_length a0) (by omega)).mono ?_; rintro e w2 ⟨a2, m2, c2, rfl, hb2, -, b2⟩)
    have H2 : Hid (BIn w2 a1 m1 (readI (numsOf a0)) ∧ BIn w2 a2 m2 (readI (numsOf a0)) ∧ Below q w w2) := ⟨hb1.below b2, hb2, by
      rw [HQ.out]
      exact b1.trans (b2.mono b1.size)⟩
    clear hb1 b1 hb2 b2
    obtain ⟨E, hE⟩ : ∃ E, E = readE (numsOf a0) := ⟨_, rfl⟩
    rw [← hE]
    have hE0 : 0 ≤ E ∧ E ≤ 40 := by rw [hE]; unfold readE; split <;> omega
    clear hE
    go_wp2_with fail
    refine (sknown_any w2).mono ?_
    rintro e w3 ⟨rfl, b3⟩
    have H3 : Hid (BIn w3 a1 m1 (readI (numsOf a0)) ∧ BIn w3 a2 m2 (readI (numsOf a0)) ∧ Below q w w3) := ⟨H2.out.1.below b3, H2.out.2.1.below b3, H2.out.2.2.trans (b3.mono (by have := H2.out.2.2.size; rw [HQ.out]; exact this))⟩
    clear b3
    go_wp2_with fail
    refine (sameBytes_of a1 m1 c1 _ a2 m2 c2 _ w3 H3.out.1 H3.out.2.1 rfl).mono ?_
    rintro e w4 ⟨rfl, rfl⟩
    go_wp2
    go_ret
    exact ⟨rfl, H3.out.2.2⟩

set_option maxRecDepth 100000 in
theorem lifted (os : Os) (started : os.Started) (H : Type) (enc : TypeId × Value → H) :
    ReturnsInHanded {} Try.checked os 4 .any (Rows.spellReadsSpec.pre6 enc Try.prog Try.f4 Rows.spellReadsRow.domain false) (Rows.spellReadsSpec.post enc Try.prog Try.f4 false true false false) := by
  refine returnsInHanded_of_change (C := Try.checked) own started (by kernel_rfl) Try.func4
    (ChangeSpec.witness6 (enc := enc) (C := Try.checked) false ⟨#[], #[.string ByteArray.empty], []⟩ 8 (by kernel_rfl) (by kernel_rfl) (by kernel_rfl) (by kernel_rfl)) ?_
  intro W base args ds gs before hval0 hW hcnd _
  have hval : ∀ (j : Nat) t v, Try.f4.params[j]? = some t → args[j]? = some v → Value.okWide Try.prog W .any base t v := hval0
  have hW' := hW
  obtain ⟨p, q, hA0, hV, rfl, hfz, hnd⟩ := hW
  have hA : DataW.TrodAll enc Try.prog W 0 (fun _ => true) true Try.f4.params.toList args.toList ds p := hA0
  rw [Try.params4] at hA hval
  obtain ⟨v0, vs0, d0, ds0, p0, q0, hargs, rfl, rfl, h0, r0⟩ := trodAll_cons hA
  obtain ⟨rfl, rfl, rfl⟩ := trodAll_nil r0
  obtain rfl : args = #[v0] := by cases args; simp_all
  obtain ⟨rfl, rfl⟩ := trodVars_none hV
  obtain ⟨a0, rfl, rfl, rfl, w0⟩ := open_string Try.underlying9 (hval 0 9 v0 rfl rfl) h0
  clear hA0 hval0
  refine (walk a0 w0 W).mono fun e W' ⟨he, bel⟩ => ?_
  subst he
  exact ⟨_, rfl, _, _, _, [], _, [], hW', trodAll_mk1 (shut_bool Try.underlying4 _), (trodAll_cons_mk (shut_string Try.underlying9 w0) trodAll_mk0), rfl, bel.frame _, fun h => by cases h⟩

theorem over : Rows.spellReadsRow.holds Try.pinned (OpenSpec.ofChange Rows.spellReadsSpec) :=
  OpenClaim.holds_of_wide 4 Try.f4 rfl rfl rfl rfl rfl rfl rfl ⟨rfl, rfl, rfl, rfl, rfl⟩ rfl rfl rfl rfl rfl (by kernel_rfl) Try.func4 (by kernel_rfl)
    (of_decide_eq_true (by kernel_rfl)) (by unfold Func.isWrapper; first | (rw [if_pos (by decide +kernel)]; kernel_rfl) | (rw [if_neg (by decide +kernel)]; exact ⟨rfl, rfl⟩))
    (fun os started H enc _ => lifted os started H enc)

end Go.Proofs.Ythddclcoikhljaa.spellReads
namespace Go.Proofs.Ythddclcoikhljaa
/-- The statement. -/
theorem spellReads_holds : Rows.SpellReadsSaid := spellReads.over
#print axioms spellReads_holds
end Go.Proofs.Ythddclcoikhljaa
