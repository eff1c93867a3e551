/- Proved: whatever list of bytes and text SpellBack of layer 4 is handed, it returns true, and its arguments read as before: what is written is read, what is read is written so, and a sign stands for five bits. -/
import Derived.Test.YthddclcoikhljaaRows
import Derived.Test.YthddclcoikhljaaSpKnown
import Derived.WalkKit
import Derived.ProofKit
import Derived.OpenShut
import Derived.ShutString
import Derived.ChangeOld
import Derived.Below
namespace Go.Proofs.Ythddclcoikhljaa.spellBack
open Go.ChangeShapes Go.WideShapes Go.ChangeAt Go.RowKit
open Go.ChangeMaps (open_string shut_string)
set_option linter.unusedVariables false

theorem own : ownKnob Try.prog.godebug = none := by kernel_rfl
theorem laidOut : laidOutB Try.prog = true := by kernel_rfl

/-- WHAT THE WALK IS TOLD OF A SLICE OF INTEGERS THAT CAME IN: it is nil; or it leads to a row of 'cap' cells, the numbers 'zs' (the first 'len' are its elements, the rest its spare room), each fitting its kind. -/
def IsRow (k : IntKind) (w : World) (a : Option Addr) (len cap : Nat) (zs : List Int) : Prop :=
  (a = none ∧ len = 0 ∧ cap = 0 ∧ zs = []) ∨
  ∃ x, a = some x ∧ len ≤ cap ∧ cap ≤ maxLen ∧ zs.length = cap ∧ (∀ i, i < zs.length → w.cell? (x.add i) = some (.int k (zs.getD i 0))) ∧ ∀ n ∈ zs, (Lit.int k n).wf = true

theorem below_on {q : Nat} {w w1 w2 : World} (h : Below q w w1) (hq : q = w.heap.size) (h2 : Below w1.heap.size w1 w2) : Below q w w2 :=
  h.trans (h2.mono (by have := h.size; omega))
set_option maxHeartbeats 1000000 in
theorem walk (a0 : Option Addr) (len0 cap0 : Nat) (z0 : List Int) (a1 : ByteArray) (w : World) (w0 : IsRow .u8 w a0 len0 cap0 z0) (w1 : a1.size ≤ maxLen) :
    Calls Try.prog 5 #[.slice a0 len0 cap0, .string a1] w fun e w' => e = .returned (.bool true) ∧ Below w.heap.size w w' := by
  obtain ⟨hB0, hc0, hnil0⟩ := row_bin w0
  obtain ⟨X, hX⟩ : ∃ X, X = z0.take len0 := ⟨_, rfl⟩
  rw [← hX] at hB0
  obtain ⟨q, hq⟩ : ∃ q, q = w.heap.size := ⟨_, rfl⟩
  have H : Hid (BIn w a0 len0 X ∧ q = w.heap.size) := ⟨hB0, hq⟩
  rw [← hq]
  clear hX w0 hB0 hc0 hnil0 hq w1
  by_cases l0 : (1000 : Int) < len0
  · go_enter Try.func5, Try.ntmps5
    go_wp2_with (go_at_call 8; refine (sknown_any w).mono ?_; rintro e w1 ⟨rfl, b1⟩)
    go_ret
    exact ⟨rfl, by rw [H.out.2]; exact b1⟩
  · have hl0 : (len0 : Int) ≤ 1000 := by omega
    by_cases l1 : (1000 : Int) < a1.size
    · go_enter Try.func5, Try.ntmps5
      go_wp2_with (go_at_call 8; refine (sknown_any w).mono ?_; rintro e w1 ⟨rfl, b1⟩)
      go_ret
      exact ⟨rfl, by rw [H.out.2]; exact b1⟩
    · have hl1 : (a1.size : Int) ≤ 1000 := by omega
      go_enter Try.func5, Try.ntmps5
      go_upto_region 3 with (go_at_call 8; refine (sknown_any w).mono ?_; rintro e w1 ⟨rfl, b1⟩)
      have H1 : Hid (BIn w1 a0 len0 X ∧ Below q w w1) := ⟨H.out.1.below b1, by rw [H.out.2]; exact b1⟩
      clear b1
      go_upto_region 4 with (go_at_call 9; refine (spWrite_of a0 len0 cap0 X w1 H1.out.1 (by omega)).mono ?_; rintro e w2 ⟨rfl, b2⟩)
      have H2 : Hid (BIn w2 a0 len0 X ∧ Below q w w2) := ⟨H1.out.1.below b2, below_on H1.out.2 H.out.2 b2⟩
      clear b2
      obtain ⟨t, ht⟩ : ∃ t, t = strOfNums (wrI X) := ⟨_, rfl⟩
      rw [← ht]
      have hts : t.size = (8 * len0 + 4) / 5 := by rw [ht, strOfNums_size, wrI_length, H.out.1.1]; rfl
      have HT : Hid (t = strOfNums (wrI X)) := ht
      clear ht
      go_upto_region 5 with (go_at_call 11; refine (spRead_of t (wrI X) (scN len0) w2 HT.out (wrI_fits X) (by rw [wrI_length, H.out.1.1]) (by unfold scN; omega)).mono ?_; rintro e w3 ⟨a3, m3, c3, rfl, hb3, -, b3⟩)
      rw [(wr_reads (bin_fit H.out.1)).2.1] at hb3
      rw [(wr_reads (bin_fit H.out.1)).2.2]
      have H3 : Hid (BIn w3 a0 len0 X ∧ Below q w w3 ∧ BIn w3 a3 m3 X) := ⟨H2.out.1.below b3, below_on H2.out.2 H.out.2 b3, hb3⟩
      clear hb3 b3
      go_upto_region 6 with (go_at_call 11; refine (spRead_of a1 (numsOf a1) a1.size w3 (numsOf_str a1) (numsOf_fits a1) (numsOf_length a1) (by omega)).mono ?_; rintro e w4 ⟨a4, m4, c4, rfl, hb4, -, b4⟩)
      have H4 : Hid (BIn w4 a0 len0 X ∧ Below q w w4 ∧ BIn w4 a3 m3 X ∧ BIn w4 a4 m4 (readI (numsOf a1)) ∧ m4 ≤ 1000) := ⟨H3.out.1.below b4, below_on H3.out.2.1 H.out.2 b4, H3.out.2.2.below b4, hb4, by
        have h1 := readI_length (numsOf a1)
        rw [numsOf_length, hb4.1] at h1
        omega⟩
      clear hb4 b4
      have hti : (t.size : Int) = (8 * (len0 : Int) + 4) / 5 := by omega
      have cM := sameBytes_of a0 len0 cap0 X a3 m3 c3 X w4 H4.out.1 H4.out.2.2.1 rfl
      by_cases hr : Reads (numsOf a1)
      · have e1 : readE (numsOf a1) = 0 := by unfold readE; rw [if_pos hr]
        have cW := spWrite_of a4 m4 c4 (readI (numsOf a1)) w4 H4.out.2.2.2.1 (by have := H4.out.2.2.2.2; omega)
        have e2 : strOfNums (wrI (readI (numsOf a1))) = a1 := by
          unfold readI
          rw [if_pos hr, reads_wr hr]
          exact (numsOf_str a1).symm
        rw [e2] at cW
        rw [e1]
        clear hr e1 e2
        go_wp2_with (first
          | (go_at_call 13; refine cM.mono ?_; rintro e w4 ⟨rfl, rfl⟩)
          | (go_at_call 9; refine cW.mono ?_; rintro e w5 ⟨rfl, b5⟩))
        go_ret
        exact ⟨rfl, below_on H4.out.2.1 H.out.2 b5⟩
      · have e1 : readE (numsOf a1) = 40 := by unfold readE; rw [if_neg hr]
        rw [e1]
        clear hr e1
        go_wp2_with (go_at_call 13; refine cM.mono ?_; rintro e w4 ⟨rfl, rfl⟩)
        go_ret
        exact ⟨rfl, H4.out.2.1⟩

set_option maxRecDepth 100000 in
theorem lifted (os : Os) (started : os.Started) (H : Type) (enc : TypeId × Value → H) :
    ReturnsInHanded {} Try.checked os 5 .any (Rows.spellBackSpec.pre6 enc Try.prog Try.f5 Rows.spellBackRow.domain false) (Rows.spellBackSpec.post enc Try.prog Try.f5 false true false false) := by
  refine returnsInHanded_of_change (C := Try.checked) own started (by kernel_rfl) Try.func5
    (ChangeSpec.witness6 (enc := enc) (C := Try.checked) false ⟨#[], #[.slice none 0 0, .string ByteArray.empty], []⟩ 8 (by kernel_rfl) (by kernel_rfl) (by kernel_rfl) (by kernel_rfl)) ?_
  intro W base args ds gs before hval0 hW hcnd _
  have hval : ∀ (j : Nat) t v, Try.f5.params[j]? = some t → args[j]? = some v → Value.okWide Try.prog W .any base t v := hval0
  have hW' := hW
  obtain ⟨p, q, hA0, hV, rfl, hfz, hnd⟩ := hW
  have hA : DataW.TrodAll enc Try.prog W 0 (fun _ => true) true Try.f5.params.toList args.toList ds p := hA0
  rw [Try.params5] at hA hval
  obtain ⟨v0, vs0, d0, ds0, p0, q0, hargs, rfl, rfl, h0, r0⟩ := trodAll_cons hA
  obtain ⟨v1, vs1, d1, ds1, p1, q1, rfl, rfl, rfl, h1, r1⟩ := trodAll_cons r0
  obtain ⟨rfl, rfl, rfl⟩ := trodAll_nil r1
  obtain rfl : args = #[v0, v1] := by cases args; simp_all
  obtain ⟨rfl, rfl⟩ := trodVars_none hV
  obtain ⟨a0, len0, cap0, rfl⟩ := okWide_slice Try.underlying22 (hval 0 22 v0 rfl rfl)
  have k0 := h0
  have lt0 : ∀ x ∈ p0, x.block < W.heap.size := by obtain ⟨m, hm⟩ := k0; exact DataW.trod_lt m _ _ _ hm
  obtain ⟨z0, w0⟩ : ∃ zs, IsRow .u8 W a0 len0 cap0 zs := by
    obtain ⟨fuel, hf⟩ := h0
    rcases open_ints Try.underlying22 Try.underlying5 (by kernel_rfl) hf with ⟨hcs, _⟩ | ⟨x, l, c, zs, hcs, _, hl, hm, hz, _, hcell, hwz⟩
    · simp [Value.cells] at hcs
      obtain ⟨rfl, rfl, rfl⟩ := hcs
      exact ⟨[], .inl ⟨rfl, rfl, rfl, rfl⟩⟩
    · simp [Value.cells] at hcs
      obtain ⟨rfl, rfl, rfl⟩ := hcs
      exact ⟨zs, .inr ⟨_, rfl, hl, hm, by simpa using hz, hcell, hwz⟩⟩
  obtain ⟨a1, rfl, rfl, rfl, w1⟩ := open_string Try.underlying9 (hval 1 9 v1 rfl rfl) h1
  clear hA0 hval0
  refine (walk a0 len0 cap0 z0 a1 W w0 w1).mono fun e W' ⟨he, bel⟩ => ?_
  subst he
  exact ⟨_, rfl, _, _, _, [], _, [], hW', trodAll_mk1 (shut_bool Try.underlying4 _), (trodAll_cons_mk (Below.trod laidOut (by kernel_rfl) (of_decide_eq_true (by kernel_rfl)) k0 bel lt0) (trodAll_cons_mk (shut_string Try.underlying9 w1) trodAll_mk0)), rfl, bel.frame _, fun h => by cases h⟩

theorem over : Rows.spellBackRow.holds Try.pinned (OpenSpec.ofChange Rows.spellBackSpec) :=
  OpenClaim.holds_of_wide 5 Try.f5 rfl rfl rfl rfl rfl rfl rfl ⟨rfl, rfl, rfl, rfl, rfl⟩ rfl rfl rfl rfl rfl (by kernel_rfl) Try.func5 (by kernel_rfl)
    (of_decide_eq_true (by kernel_rfl)) (by unfold Func.isWrapper; first | (rw [if_pos (by decide +kernel)]; kernel_rfl) | (rw [if_neg (by decide +kernel)]; exact ⟨rfl, rfl⟩))
    (fun os started H enc _ => lifted os started H enc)

end Go.Proofs.Ythddclcoikhljaa.spellBack
namespace Go.Proofs.Ythddclcoikhljaa
/-- The statement. -/
theorem spellBack_holds : Rows.SpellBackSaid := spellBack.over
#print axioms spellBack_holds
end Go.Proofs.Ythddclcoikhljaa
