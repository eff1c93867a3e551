/- Proved: whatever list of bytes, number and byte SpellStrange of layer 4 is handed, it returns true, and its arguments read as before: a text with any other sign than the thirty-two is none. -/
import Derived.Test.YthddclcoikhljaaRows
import Derived.Test.YthddclcoikhljaaSpKnown
import Derived.BigQuiet
import Derived.WalkKit
import Derived.ProofKit
import Derived.OpenShut
import Derived.ShutString
import Derived.ChangeOld
import Derived.Below
namespace Go.Proofs.Ythddclcoikhljaa.spellStrange
open Go.ChangeShapes Go.WideShapes Go.ChangeAt Go.RowKit
open Go.ChangeMaps (open_string shut_string)
set_option linter.unusedVariables false

theorem own : ownKnob Try.prog.godebug = none := by kernel_rfl
theorem laidOut : laidOutB Try.prog = true := by kernel_rfl

/-- WHAT THE WALK IS TOLD OF A SLICE OF INTEGERS THAT CAME IN: it is nil; or it leads to a row of 'cap' cells, the numbers 'zs' (the first 'len' are its elements, the rest its spare room), each fitting its kind. -/
def IsRow (k : IntKind) (w : World) (a : Option Addr) (len cap : Nat) (zs : List Int) : Prop :=
  (a = none ∧ len = 0 ∧ cap = 0 ∧ zs = []) ∨
  ∃ x, a = some x ∧ len ≤ cap ∧ cap ≤ maxLen ∧ zs.length = cap ∧ (∀ i, i < zs.length → w.cell? (x.add i) = some (.int k (zs.getD i 0))) ∧ ∀ n ∈ zs, (Lit.int k n).wf = true

theorem below_on {q : Nat} {w w1 w2 : World} (h : Below q w w1) (hq : q = w.heap.size) (h2 : Below w1.heap.size w1 w2) : Below q w w2 :=
  h.trans (h2.mono (by have := h.size; omega))
/-- A front and a back of a text. -/
theorem str_part (xs : List Int) (n m : Nat) : (strOfNums xs).extract n m = strOfNums ((xs.drop n).take (m - n)) := by
  unfold strOfNums
  rw [ByteArray.extract_mk]
  simp
theorem str_app (xs ys : List Int) : strOfNums xs ++ strOfNums ys = strOfNums (xs ++ ys) := by
  unfold strOfNums
  rw [ByteArray.mk_append_mk]
  simp
set_option maxHeartbeats 1000000 in
theorem walk (a0 : Option Addr) (len0 cap0 : Nat) (z0 : List Int) (a1 : Int) (a2 : Int) (w : World) (w0 : IsRow .u8 w a0 len0 cap0 z0) (w1 : (Lit.int .i64 a1).wf = true) (w2 : (Lit.int .u8 a2).wf = true) :
    Calls Try.prog 7 #[.slice a0 len0 cap0, .int .i64 a1, .int .u8 a2] w fun e w' => e = .returned (.bool true) ∧ Below w.heap.size w w' := by
  obtain ⟨hB0, hc0, hnil0⟩ := row_bin w0
  obtain ⟨X, hX⟩ : ∃ X, X = z0.take len0 := ⟨_, rfl⟩
  rw [← hX] at hB0
  obtain ⟨q, hq⟩ : ∃ q, q = w.heap.size := ⟨_, rfl⟩
  have H : Hid (BIn w a0 len0 X ∧ q = w.heap.size) := ⟨hB0, hq⟩
  rw [← hq]
  have hf2 : Fits8 a2 := by have := bounds_u8 w2; unfold Fits8; omega
  have hb1 := bounds_i64 w1
  clear hX w0 hB0 hc0 hnil0 hq w1 w2
  by_cases l0 : (1000 : Int) < len0
  · go_enter Try.func7, Try.ntmps7
    go_wp2_with (go_at_call 8; refine (sknown_any w).mono ?_; rintro e w1 ⟨rfl, b1⟩)
    go_ret
    exact ⟨rfl, by rw [H.out.2]; exact b1⟩
  · have hl0 : (len0 : Int) ≤ 1000 := by omega
    go_enter Try.func7, Try.ntmps7
    go_upto_region 3 with (go_at_call 8; refine (sknown_any w).mono ?_; rintro e w1 ⟨rfl, b1⟩)
    have H1 : Hid (BIn w1 a0 len0 X ∧ Below q w w1) := ⟨H.out.1.below b1, by rw [H.out.2]; exact b1⟩
    clear b1
    go_upto_region 4 with (go_at_call 9; refine (spWrite_of a0 len0 cap0 X w1 H1.out.1 (by omega)).mono ?_; rintro e w2 ⟨rfl, b2⟩)
    have H2 : Hid (Below q w w2) := below_on H1.out.2 H.out.2 b2
    clear b2
    obtain ⟨s, hs⟩ : ∃ s, s = strOfNums (wrI X) := ⟨_, rfl⟩
    rw [← hs]
    obtain ⟨S, hS⟩ : ∃ S, S = s.size := ⟨_, rfl⟩
    have hsz : s.size = (8 * len0 + 4) / 5 := by rw [hs, strOfNums_size, wrI_length, H.out.1.1]; rfl
    have hS1 : S ≤ 2000 := by omega
    obtain ⟨M, hM⟩ : ∃ M, M = max a1 0 := ⟨_, rfl⟩
    have hM0 : 0 ≤ M := by omega
    obtain ⟨t, ht⟩ : ∃ t : Nat, M % ((S : Int) + 1) = t := ⟨(M % ((S : Int) + 1)).toNat, by have := Int.emod_nonneg M (show (S : Int) + 1 ≠ 0 by omega); omega⟩
    have ht1 : (t : Int) ≤ S := by have := Int.emod_lt_of_pos M (show (0 : Int) < S + 1 by omega); omega
    have HS : Hid (s = strOfNums (wrI X) ∧ (wrI X).length = S) := ⟨hs, by rw [hS, hs, strOfNums_size]⟩
    replace hS := hS.symm
    rw [hM] at ht
    clear hs hsz hM hM0
    have hcv := str_of (w2.alloc (.cells #[.int .u8 a2] 5)).drew (some ⟨w2.heap.size, 0, none⟩) 1 1 [a2] ((new_bin rfl rfl rfl (by intro z hz; simp only [List.mem_cons, List.not_mem_nil, or_false] at hz; subst hz; exact hf2) (by show (1 : Nat) ≤ maxLen; unfold maxLen; omega)).below (Below.refl _ _).drew)
    go_upto_region 5 with fail
    rw [ht]
    have g1 : (strOfNums [a2]).size = 1 := by rw [strOfNums_size]; rfl
    go_region
    clear hcv g1
    obtain ⟨L, hL⟩ : ∃ L, L = (wrI X).take t ++ [a2] ++ (wrI X).drop t := ⟨_, rfl⟩
    have hu : s.extract 0 t ++ strOfNums [a2] ++ s.extract t S = strOfNums L := by
      rw [HS.out.1, str_part, str_part, str_app, str_app, hL, ← HS.out.2, List.drop_zero, Nat.sub_zero, List.take_of_length_le (l := (wrI X).drop t) (by rw [List.length_drop]; exact Nat.le_refl _)]
    have HL : Hid (L.length = S + 1 ∧ (∀ z ∈ L, Fits8 z) ∧ a2 ∈ L) := by
      refine ⟨?_, ?_, ?_⟩
      · rw [hL]
        have := HS.out.2
        simp only [List.length_append, List.length_take, List.length_drop, List.length_cons, List.length_nil]
        omega
      · intro z hz
        rw [hL] at hz
        simp only [List.mem_append, List.mem_cons, List.not_mem_nil, or_false] at hz
        rcases hz with (hz | hz) | hz
        · exact wrI_fits X z (List.mem_of_mem_take hz)
        · rw [hz]; exact hf2
        · exact wrI_fits X z (List.mem_of_mem_drop hz)
      · rw [hL]; simp
    obtain ⟨u, hu'⟩ : ∃ u, u = strOfNums L := ⟨_, rfl⟩
    rw [hu, ← hu']
    have HU : Hid (u = strOfNums L) := hu'
    obtain ⟨w3, hw3⟩ : ∃ w3, w3 = (w2.alloc (.cells #[.int .u8 a2] 5)).drew := ⟨_, rfl⟩
    have H3 : Hid (Below q w w3) := by
      have h := H2.out
      have hz := h.size
      rw [← H.out.2] at hz
      rw [hw3]; exact (h.alloc hz _).drew
    rw [← hw3]
    clear hu hu' hL hw3 ht ht1 hS
    have cR := spRead_of u L (S + 1) w3 HU.out HL.out.2.1 HL.out.1 (by omega)
    by_cases hsn : IsSign a2
    · unfold Fits8 at hf2
      unfold IsSign at hsn
      by_cases h97 : 97 ≤ a2
      · have h122 : a2 ≤ 122 := by omega
        clear hsn
        go_upto_region 7 with fail
        go_wp2_with (go_at_call 11; refine cR.mono ?_; rintro e w4 ⟨a4, m4, c4, rfl, -, -, b4⟩)
        go_ret
        exact ⟨rfl, below_on H3.out H.out.2 b4⟩
      · have h50 : 50 ≤ a2 := by omega
        have h55 : a2 ≤ 55 := by omega
        clear hsn
        go_upto_region 7 with fail
        go_wp2_with (go_at_call 11; refine cR.mono ?_; rintro e w4 ⟨a4, m4, c4, rfl, -, -, b4⟩)
        go_ret
        exact ⟨rfl, below_on H3.out H.out.2 b4⟩
    · have e1 : readE L = 40 := by
        unfold readE
        rw [if_neg (fun hr => hsn (hr.1 a2 HL.out.2.2))]
      rw [e1] at cR
      unfold Fits8 at hf2
      unfold IsSign at hsn
      by_cases h97 : 97 ≤ a2
      · have h122 : ¬ a2 ≤ 122 := by omega
        have h50 : 50 ≤ a2 := by omega
        have h55 : ¬ a2 ≤ 55 := by omega
        clear hsn
        go_upto_region 7 with fail
        go_wp2_with (go_at_call 11; refine cR.mono ?_; rintro e w4 ⟨a4, m4, c4, rfl, -, -, b4⟩)
        go_ret
        exact ⟨rfl, below_on H3.out H.out.2 b4⟩
      · by_cases h50 : 50 ≤ a2
        · have h55 : ¬ a2 ≤ 55 := by omega
          clear hsn
          go_upto_region 7 with fail
          go_wp2_with (go_at_call 11; refine cR.mono ?_; rintro e w4 ⟨a4, m4, c4, rfl, -, -, b4⟩)
          go_ret
          exact ⟨rfl, below_on H3.out H.out.2 b4⟩
        · clear hsn
          go_upto_region 7 with fail
          go_wp2_with (go_at_call 11; refine cR.mono ?_; rintro e w4 ⟨a4, m4, c4, rfl, -, -, b4⟩)
          go_ret
          exact ⟨rfl, below_on H3.out H.out.2 b4⟩

set_option maxRecDepth 100000 in
theorem lifted (os : Os) (started : os.Started) (H : Type) (enc : TypeId × Value → H) :
    ReturnsInHanded {} Try.checked os 7 .any (Rows.spellStrangeSpec.pre6 enc Try.prog Try.f7 Rows.spellStrangeRow.domain false) (Rows.spellStrangeSpec.post enc Try.prog Try.f7 false true false false) := by
  refine returnsInHanded_of_change (C := Try.checked) own started (by kernel_rfl) Try.func7
    (ChangeSpec.witness6 (enc := enc) (C := Try.checked) false ⟨#[], #[.slice none 0 0, .int .i64 0, .int .u8 0], []⟩ 8 (by kernel_rfl) (by kernel_rfl) (by kernel_rfl) (by kernel_rfl)) ?_
  intro W base args ds gs before hval0 hW hcnd _
  have hval : ∀ (j : Nat) t v, Try.f7.params[j]? = some t → args[j]? = some v → Value.okWide Try.prog W .any base t v := hval0
  have hW' := hW
  obtain ⟨p, q, hA0, hV, rfl, hfz, hnd⟩ := hW
  have hA : DataW.TrodAll enc Try.prog W 0 (fun _ => true) true Try.f7.params.toList args.toList ds p := hA0
  rw [Try.params7] at hA hval
  obtain ⟨v0, vs0, d0, ds0, p0, q0, hargs, rfl, rfl, h0, r0⟩ := trodAll_cons hA
  obtain ⟨v1, vs1, d1, ds1, p1, q1, rfl, rfl, rfl, h1, r1⟩ := trodAll_cons r0
  obtain ⟨v2, vs2, d2, ds2, p2, q2, rfl, rfl, rfl, h2, r2⟩ := trodAll_cons r1
  obtain ⟨rfl, rfl, rfl⟩ := trodAll_nil r2
  obtain rfl : args = #[v0, v1, v2] := by cases args; simp_all
  obtain ⟨rfl, rfl⟩ := trodVars_none hV
  obtain ⟨a0, len0, cap0, rfl⟩ := okWide_slice Try.underlying22 (hval 0 22 v0 rfl rfl)
  have k0 := h0
  have lt0 : ∀ x ∈ p0, x.block < W.heap.size := by obtain ⟨m, hm⟩ := k0; exact DataW.trod_lt m _ _ _ hm
  obtain ⟨z0, w0⟩ : ∃ zs, IsRow .u8 W a0 len0 cap0 zs := by
    obtain ⟨fuel, hf⟩ := h0
    rcases open_ints Try.underlying22 Try.underlying5 (by kernel_rfl) hf with ⟨hcs, _⟩ | ⟨x, l, c, zs, hcs, _, hl, hm, hz, _, hcell, hwz⟩
    · simp [Value.cells] at hcs
      obtain ⟨rfl, rfl, rfl⟩ := hcs
      exact ⟨[], .inl ⟨rfl, rfl, rfl, rfl⟩⟩
    · simp [Value.cells] at hcs
      obtain ⟨rfl, rfl, rfl⟩ := hcs
      exact ⟨zs, .inr ⟨_, rfl, hl, hm, by simpa using hz, hcell, hwz⟩⟩
  obtain ⟨a1, rfl, rfl, rfl, w1⟩ := open_int Try.underlying3 (hval 1 3 v1 rfl rfl) h1
  obtain ⟨a2, rfl, rfl, rfl, w2⟩ := open_int Try.underlying5 (hval 2 5 v2 rfl rfl) h2
  clear hA0 hval0
  refine (walk a0 len0 cap0 z0 a1 a2 W w0 w1 w2).mono fun e W' ⟨he, bel⟩ => ?_
  subst he
  exact ⟨_, rfl, _, _, _, [], _, [], hW', trodAll_mk1 (shut_bool Try.underlying4 _), (trodAll_cons_mk (Below.trod laidOut (by kernel_rfl) (of_decide_eq_true (by kernel_rfl)) k0 bel lt0) (trodAll_cons_mk (shut_int Try.underlying3 w1) (trodAll_cons_mk (shut_int Try.underlying5 w2) trodAll_mk0))), rfl, bel.frame _, fun h => by cases h⟩

theorem over : Rows.spellStrangeRow.holds Try.pinned (OpenSpec.ofChange Rows.spellStrangeSpec) :=
  OpenClaim.holds_of_wide 7 Try.f7 rfl rfl rfl rfl rfl rfl rfl ⟨rfl, rfl, rfl, rfl, rfl⟩ rfl rfl rfl rfl rfl (by kernel_rfl) Try.func7 (by kernel_rfl)
    (of_decide_eq_true (by kernel_rfl)) (by unfold Func.isWrapper; first | (rw [if_pos (by decide +kernel)]; kernel_rfl) | (rw [if_neg (by decide +kernel)]; exact ⟨rfl, rfl⟩))
    (fun os started H enc _ => lifted os started H enc)

end Go.Proofs.Ythddclcoikhljaa.spellStrange
namespace Go.Proofs.Ythddclcoikhljaa
/-- The statement. -/
theorem spellStrange_holds : Rows.SpellStrangeSaid := spellStrange.over
#print axioms spellStrange_holds
end Go.Proofs.Ythddclcoikhljaa
