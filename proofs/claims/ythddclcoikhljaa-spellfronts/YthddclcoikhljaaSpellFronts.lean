/- Proved: whatever two lists of bytes SpellFronts of layer 4 is handed, it returns true, and its arguments read as before: bytes behind others do not change the signs ahead, but perhaps the last one. -/
import Derived.Test.YthddclcoikhljaaRows
import Derived.Test.YthddclcoikhljaaSpKnown
import Derived.BigQuiet
import Derived.WalkKit
import Derived.ProofKit
import Derived.OpenShut
import Derived.ShutString
import Derived.ChangeOld
import Derived.Below
namespace Go.Proofs.Ythddclcoikhljaa.spellFronts
open Go.ChangeShapes Go.WideShapes Go.ChangeAt Go.RowKit
open Go.ChangeMaps (open_string shut_string)
set_option linter.unusedVariables false

theorem own : ownKnob Try.prog.godebug = none := by kernel_rfl
theorem laidOut : laidOutB Try.prog = true := by kernel_rfl

/-- WHAT THE WALK IS TOLD OF A SLICE OF INTEGERS THAT CAME IN: it is nil; or it leads to a row of 'cap' cells, the numbers 'zs' (the first 'len' are its elements, the rest its spare room), each fitting its kind. -/
def IsRow (k : IntKind) (w : World) (a : Option Addr) (len cap : Nat) (zs : List Int) : Prop :=
  (a = none ∧ len = 0 ∧ cap = 0 ∧ zs = []) ∨
  ∃ x, a = some x ∧ len ≤ cap ∧ cap ≤ maxLen ∧ zs.length = cap ∧ (∀ i, i < zs.length → w.cell? (x.add i) = some (.int k (zs.getD i 0))) ∧ ∀ n ∈ zs, (Lit.int k n).wf = true

theorem below_on {q : Nat} {w w1 w2 : World} (h : Below q w w1) (hq : q = w.heap.size) (h2 : Below w1.heap.size w1 w2) : Below q w w2 :=
  h.trans (h2.mono (by have := h.size; omega))
/-- A front of a text. -/
theorem str_front (xs : List Int) (n : Nat) : (strOfNums xs).extract 0 n = strOfNums (xs.take n) := by
  unfold strOfNums
  rw [ByteArray.extract_mk]
  simp
theorem front_same (xs ys : List Int) : (wrI xs).take (8 * xs.length / 5) = (wrI (xs ++ ys)).take (8 * xs.length / 5) := by
  apply List.ext_getElem
  · simp only [List.length_take, wrI_length, List.length_append]; unfold scN; omega
  · intro i h1 h2
    simp only [List.length_take] at h1 h2
    have h := wr_front xs ys i (by omega)
    simp only [List.getElem_take]
    have a1 : i < (wrI xs).length := by omega
    have a2 : i < (wrI (xs ++ ys)).length := by omega
    simpa [List.getD, a1, a2] using h
set_option maxHeartbeats 1000000 in
theorem walk (a0 : Option Addr) (len0 cap0 : Nat) (z0 : List Int) (a1 : Option Addr) (len1 cap1 : Nat) (z1 : List Int) (w : World) (w0 : IsRow .u8 w a0 len0 cap0 z0) (w1 : IsRow .u8 w a1 len1 cap1 z1) :
    Calls Try.prog 6 #[.slice a0 len0 cap0, .slice a1 len1 cap1] w fun e w' => e = .returned (.bool true) ∧ Below w.heap.size w w' := by
  obtain ⟨hB0, hc0, hnil0⟩ := row_bin w0
  obtain ⟨hB1, hc1, hnil1⟩ := row_bin w1
  obtain ⟨X, hX⟩ : ∃ X, X = z0.take len0 := ⟨_, rfl⟩
  obtain ⟨Y, hY⟩ : ∃ Y, Y = z1.take len1 := ⟨_, rfl⟩
  rw [← hX] at hB0
  rw [← hY] at hB1
  obtain ⟨q, hq⟩ : ∃ q, q = w.heap.size := ⟨_, rfl⟩
  have H : Hid (BIn w a0 len0 X ∧ q = w.heap.size ∧ BIn w a1 len1 Y ∧ (a0 = none → len0 = 0 ∧ cap0 = 0) ∧ (a1 = none → len1 = 0 ∧ cap1 = 0)) := ⟨hB0, hq, hB1, hnil0, hnil1⟩
  rw [← hq]
  clear hX hY w0 w1 hB0 hB1 hc0 hc1 hnil0 hnil1 hq
  by_cases l0 : (1000 : Int) < len0
  · go_enter Try.func6, Try.ntmps6
    go_wp2_with (go_at_call 8; refine (sknown_any w).mono ?_; rintro e w1 ⟨rfl, b1⟩)
    go_ret
    exact ⟨rfl, by rw [H.out.2.1]; exact b1⟩
  · have hl0 : (len0 : Int) ≤ 1000 := by omega
    by_cases l1 : (1000 : Int) < len1
    · go_enter Try.func6, Try.ntmps6
      go_wp2_with (go_at_call 8; refine (sknown_any w).mono ?_; rintro e w1 ⟨rfl, b1⟩)
      go_ret
      exact ⟨rfl, by rw [H.out.2.1]; exact b1⟩
    · have hl1 : (len1 : Int) ≤ 1000 := by omega
      go_enter Try.func6, Try.ntmps6
      go_upto_region 3 with (go_at_call 8; refine (sknown_any w).mono ?_; rintro e w1 ⟨rfl, b1⟩)
      have H1 : Hid (BIn w1 a0 len0 X ∧ Below q w w1 ∧ BIn w1 a1 len1 Y ∧ q ≤ w1.heap.size) := ⟨H.out.1.below b1, by rw [H.out.2.1]; exact b1, H.out.2.2.1.below b1, by rw [H.out.2.1]; exact b1.size⟩
      clear b1
      go_upto_region 5 with (at_builtin; refine wpList_append_bin rfl (.tmp 22) (.tmp 23) rfl w1.heap.size none 0 0 [] rfl (World.ownsRow_nil _ _ _ _) a0 len0 cap0 X rfl H1.out.1 H.out.2.2.2.1 (by omega) (Nat.le_refl _) ?_; intro a2 c2 w2 ow2 b2; simp only [Nat.zero_add, List.nil_append] at ow2 ⊢)
      go_upto_region 6 with (at_builtin; refine wpList_append_bin rfl (.tmp 25) (.tmp 26) rfl w1.heap.size a2 len0 c2 X rfl ow2 a1 len1 cap1 Y rfl (H1.out.2.2.1.below b2) H.out.2.2.2.2 (by omega) b2.size ?_; intro a3 c3 w3 ow3 b3)
      have H3 : Hid (BIn w3 a0 len0 X ∧ Below q w w3 ∧ BIn w3 a3 (len0 + len1) (X ++ Y)) := by
        have b13 := b2.trans b3
        refine ⟨H1.out.1.below b13, below_on H1.out.2.1 H.out.2.1 b13, own_bin ow3 (by unfold maxLen; omega) ?_⟩
        intro z hz
        rcases List.mem_append.1 hz with hz | hz
        · exact H.out.1.2.2.1 z hz
        · exact H.out.2.2.1.2.2.1 z hz
      clear ow2 b2 ow3 b3
      go_upto_region 7 with (go_at_call 9; refine (spWrite_of a0 len0 cap0 X w3 H3.out.1 (by omega)).mono ?_; rintro e w4 ⟨rfl, b4⟩)
      have H4 : Hid (Below q w w4 ∧ BIn w4 a3 (len0 + len1) (X ++ Y)) := ⟨below_on H3.out.2.1 H.out.2.1 b4, H3.out.2.2.below b4⟩
      clear b4
      go_upto_region 8 with (go_at_call 9; refine (spWrite_of a3 (len0 + len1) c3 (X ++ Y) w4 H4.out.2 (by omega)).mono ?_; rintro e w5 ⟨rfl, b5⟩)
      have H5 : Hid (Below q w w5) := below_on H4.out.1 H.out.2.1 b5
      clear b5
      obtain ⟨s, hs⟩ : ∃ s, s = strOfNums (wrI X) := ⟨_, rfl⟩
      obtain ⟨t, ht⟩ : ∃ t, t = strOfNums (wrI (X ++ Y)) := ⟨_, rfl⟩
      rw [← hs, ← ht]
      obtain ⟨n, hn⟩ : ∃ n, n = 8 * len0 / 5 := ⟨_, rfl⟩
      have hsz : s.size = (8 * len0 + 4) / 5 := by rw [hs, strOfNums_size, wrI_length, H.out.1.1]; rfl
      have htz : t.size = (8 * (len0 + len1) + 4) / 5 := by rw [ht, strOfNums_size, wrI_length, List.length_append, H.out.1.1, H.out.2.2.1.1]; rfl
      have hfr : s.extract 0 n = t.extract 0 n := by rw [hs, ht, str_front, str_front, hn, ← H.out.1.1, front_same]
      obtain ⟨S, hS⟩ : ∃ S, S = s.size := ⟨_, rfl⟩
      obtain ⟨T, hT⟩ : ∃ T, T = t.size := ⟨_, rfl⟩
      have g1 : (S : Int) ≤ T := by omega
      have g2 : (n : Int) ≤ S := by omega
      have g3 : (n : Int) ≤ T := by omega
      have gn : 8 * (len0 : Int) / 5 = n := by omega
      replace hS := hS.symm
      replace hT := hT.symm
      have HN : Hid (n = 8 * len0 / 5) := hn
      clear hs ht hsz htz hn
      go_wp2
      go_quiet (fail)
      go_wp2
      go_ret
      have h := H5.out
      exact ⟨rfl, ⟨h.os, h.tape, h.output, h.size, h.block⟩⟩

set_option maxRecDepth 100000 in
theorem lifted (os : Os) (started : os.Started) (H : Type) (enc : TypeId × Value → H) :
    ReturnsInHanded {} Try.checked os 6 .any (Rows.spellFrontsSpec.pre6 enc Try.prog Try.f6 Rows.spellFrontsRow.domain false) (Rows.spellFrontsSpec.post enc Try.prog Try.f6 false true false false) := by
  refine returnsInHanded_of_change (C := Try.checked) own started (by kernel_rfl) Try.func6
    (ChangeSpec.witness6 (enc := enc) (C := Try.checked) false ⟨#[], #[.slice none 0 0, .slice none 0 0], []⟩ 8 (by kernel_rfl) (by kernel_rfl) (by kernel_rfl) (by kernel_rfl)) ?_
  intro W base args ds gs before hval0 hW hcnd _
  have hval : ∀ (j : Nat) t v, Try.f6.params[j]? = some t → args[j]? = some v → Value.okWide Try.prog W .any base t v := hval0
  have hW' := hW
  obtain ⟨p, q, hA0, hV, rfl, hfz, hnd⟩ := hW
  have hA : DataW.TrodAll enc Try.prog W 0 (fun _ => true) true Try.f6.params.toList args.toList ds p := hA0
  rw [Try.params6] at hA hval
  obtain ⟨v0, vs0, d0, ds0, p0, q0, hargs, rfl, rfl, h0, r0⟩ := trodAll_cons hA
  obtain ⟨v1, vs1, d1, ds1, p1, q1, rfl, rfl, rfl, h1, r1⟩ := trodAll_cons r0
  obtain ⟨rfl, rfl, rfl⟩ := trodAll_nil r1
  obtain rfl : args = #[v0, v1] := by cases args; simp_all
  obtain ⟨rfl, rfl⟩ := trodVars_none hV
  obtain ⟨a0, len0, cap0, rfl⟩ := okWide_slice Try.underlying22 (hval 0 22 v0 rfl rfl)
  have k0 := h0
  have lt0 : ∀ x ∈ p0, x.block < W.heap.size := by obtain ⟨m, hm⟩ := k0; exact DataW.trod_lt m _ _ _ hm
  obtain ⟨z0, w0⟩ : ∃ zs, IsRow .u8 W a0 len0 cap0 zs := by
    obtain ⟨fuel, hf⟩ := h0
    rcases open_ints Try.underlying22 Try.underlying5 (by kernel_rfl) hf with ⟨hcs, _⟩ | ⟨x, l, c, zs, hcs, _, hl, hm, hz, _, hcell, hwz⟩
    · simp [Value.cells] at hcs
      obtain ⟨rfl, rfl, rfl⟩ := hcs
      exact ⟨[], .inl ⟨rfl, rfl, rfl, rfl⟩⟩
    · simp [Value.cells] at hcs
      obtain ⟨rfl, rfl, rfl⟩ := hcs
      exact ⟨zs, .inr ⟨_, rfl, hl, hm, by simpa using hz, hcell, hwz⟩⟩
  obtain ⟨a1, len1, cap1, rfl⟩ := okWide_slice Try.underlying22 (hval 1 22 v1 rfl rfl)
  have k1 := h1
  have lt1 : ∀ x ∈ p1, x.block < W.heap.size := by obtain ⟨m, hm⟩ := k1; exact DataW.trod_lt m _ _ _ hm
  obtain ⟨z1, w1⟩ : ∃ zs, IsRow .u8 W a1 len1 cap1 zs := by
    obtain ⟨fuel, hf⟩ := h1
    rcases open_ints Try.underlying22 Try.underlying5 (by kernel_rfl) hf with ⟨hcs, _⟩ | ⟨x, l, c, zs, hcs, _, hl, hm, hz, _, hcell, hwz⟩
    · simp [Value.cells] at hcs
      obtain ⟨rfl, rfl, rfl⟩ := hcs
      exact ⟨[], .inl ⟨rfl, rfl, rfl, rfl⟩⟩
    · simp [Value.cells] at hcs
      obtain ⟨rfl, rfl, rfl⟩ := hcs
      exact ⟨zs, .inr ⟨_, rfl, hl, hm, by simpa using hz, hcell, hwz⟩⟩
  clear hA0 hval0
  refine (walk a0 len0 cap0 z0 a1 len1 cap1 z1 W w0 w1).mono fun e W' ⟨he, bel⟩ => ?_
  subst he
  exact ⟨_, rfl, _, _, _, [], _, [], hW', trodAll_mk1 (shut_bool Try.underlying4 _), (trodAll_cons_mk (Below.trod laidOut (by kernel_rfl) (of_decide_eq_true (by kernel_rfl)) k0 bel lt0) (trodAll_cons_mk (Below.trod laidOut (by kernel_rfl) (of_decide_eq_true (by kernel_rfl)) k1 bel lt1) trodAll_mk0)), rfl, bel.frame _, fun h => by cases h⟩

theorem over : Rows.spellFrontsRow.holds Try.pinned (OpenSpec.ofChange Rows.spellFrontsSpec) :=
  OpenClaim.holds_of_wide 6 Try.f6 rfl rfl rfl rfl rfl rfl rfl ⟨rfl, rfl, rfl, rfl, rfl⟩ rfl rfl rfl rfl rfl (by kernel_rfl) Try.func6 (by kernel_rfl)
    (of_decide_eq_true (by kernel_rfl)) (by unfold Func.isWrapper; first | (rw [if_pos (by decide +kernel)]; kernel_rfl) | (rw [if_neg (by decide +kernel)]; exact ⟨rfl, rfl⟩))
    (fun os started H enc _ => lifted os started H enc)

end Go.Proofs.Ythddclcoikhljaa.spellFronts
namespace Go.Proofs.Ythddclcoikhljaa
/-- The statement. -/
theorem spellFronts_holds : Rows.SpellFrontsSaid := spellFronts.over
#print axioms spellFronts_holds
end Go.Proofs.Ythddclcoikhljaa
