/- Just two of all numbers of four bytes are flags that a client may have; four bytes are enough, fewer are not. -/
import Derived.Test.YtkegpgmmlmineaaRows
import Derived.Test.YtkegpgmmlmineaaGKnown
import Derived.WalkKit
import Derived.ProofKit
import Derived.OpenShut
import Derived.ShutString
import Derived.ChangeOld
import Derived.Below
namespace Go.Proofs.Ytkegpgmmlmineaa.greetFlags
open Go.ChangeShapes Go.WideShapes Go.ChangeAt Go.RowKit
open Go.ChangeMaps (open_string shut_string)
set_option linter.unusedVariables false

theorem own : ownKnob Try.prog.godebug = none := by kernel_rfl
theorem laidOut : laidOutB Try.prog = true := by kernel_rfl

/-- WHAT THE WALK IS TOLD OF A SLICE OF INTEGERS THAT CAME IN: it is nil; or it leads to a row of 'cap' cells, the numbers 'zs' (the first 'len' are its elements, the rest its spare room), each fitting its kind. -/
def IsRow (k : IntKind) (w : World) (a : Option Addr) (len cap : Nat) (zs : List Int) : Prop :=
  (a = none ∧ len = 0 ∧ cap = 0 ∧ zs = []) ∨
  ∃ x, a = some x ∧ len ≤ cap ∧ cap ≤ maxLen ∧ zs.length = cap ∧ (∀ i, i < zs.length → w.cell? (x.add i) = some (.int k (zs.getD i 0))) ∧ ∀ n ∈ zs, (Lit.int k n).wf = true

theorem fN_four (a b c d : Int) (Y : List Int) : fN ([a, b, c, d] ++ Y) = ((a * 256 + b) * 256 + c) * 256 + d := by
  unfold fN
  simp [numI]
theorem four_len (a b c d : Int) (Y : List Int) : ¬ ([a, b, c, d] ++ Y).length < 4 := by simp
theorem fl_yes (a b c d : Int) (Y : List Int) (h : a = 0 ∧ b = 0 ∧ c = 0 ∧ (d = 1 ∨ d = 3)) : flagsB ([a, b, c, d] ++ Y) = decide (d = 3) ∧ flagsC ([a, b, c, d] ++ Y) = 4 ∧ flagsE ([a, b, c, d] ++ Y) = 0 := by
  obtain ⟨rfl, rfl, rfl, hd⟩ := h
  have e : fN ([0, 0, 0, d] ++ Y) = d := by rw [fN_four]; omega
  obtain ⟨h1, h2, h3⟩ := flags_good (four_len 0 0 0 d Y) (by rw [e]; exact hd)
  rw [e] at h1
  exact ⟨h1, h2, h3⟩
theorem fl_no (a b c d : Int) (Y : List Int) (ha : Fits8 a) (hb : Fits8 b) (hc : Fits8 c) (hd : Fits8 d) (h : ¬ (a = 0 ∧ b = 0 ∧ c = 0 ∧ (d = 1 ∨ d = 3))) : flagsB ([a, b, c, d] ++ Y) = false ∧ flagsC ([a, b, c, d] ++ Y) = 0 ∧ flagsE ([a, b, c, d] ++ Y) = 72 := by
  refine flags_bad (four_len a b c d Y) ?_
  rw [fN_four]
  unfold Fits8 at *
  omega
theorem fl_three (a b c : Int) : flagsB [a, b, c] = false ∧ flagsC [a, b, c] = 0 ∧ flagsE [a, b, c] = 70 := flags_few (by simp)
set_option maxHeartbeats 2000000 in
theorem walk (a0 : Int) (a1 : Int) (a2 : Int) (a3 : Int) (a4 : Option Addr) (len4 cap4 : Nat) (z4 : List Int) (w : World) (w0 : (Lit.int .u8 a0).wf = true) (w1 : (Lit.int .u8 a1).wf = true) (w2 : (Lit.int .u8 a2).wf = true) (w3 : (Lit.int .u8 a3).wf = true) (w4 : IsRow .u8 w a4 len4 cap4 z4) :
    Calls Try.prog 8 #[.int .u8 a0, .int .u8 a1, .int .u8 a2, .int .u8 a3, .slice a4 len4 cap4] w fun e w' => e = .returned (.bool true) ∧ Below w.heap.size w w' := by
  obtain ⟨hy, hyc, hyn⟩ := row_nin w4
  obtain ⟨Y, eY⟩ : ∃ Y, Y = z4.take len4 := ⟨_, rfl⟩
  rw [← eY] at hy
  have f0 := fits8 w0
  have f1 := fits8 w1
  have f2 := fits8 w2
  have f3 := fits8 w3
  have H : Hid (BIn w a4 len4 Y ∧ (a4 = none → len4 = 0 ∧ cap4 = 0) ∧ Fits8 a0 ∧ Fits8 a1 ∧ Fits8 a2 ∧ Fits8 a3) := ⟨hy.b, hyn, f0, f1, f2, f3⟩
  clear hy eY w0 w1 w2 w3 w4 hyc hyn f0 f1 f2 f3
  by_cases h1 : (3000 : Int) < len4
  · go_enter Try.func8, Try.ntmps8
    go_wp2_with (go_at_call 15; refine (gknown_any _).mono ?_; rintro e W ⟨rfl, b⟩)
    go_ret
    exact ⟨rfl, b⟩
  have n1 : len4 ≤ 3000 := by omega
  have d1 : decide (3000 < (len4 : Int)) = false := decide_eq_false (by omega)
  obtain ⟨FB, hFB⟩ : ∃ FB, FB = flagsB ([a0, a1, a2, a3] ++ Y) := ⟨_, rfl⟩
  obtain ⟨FC, hFC⟩ : ∃ FC, FC = flagsC ([a0, a1, a2, a3] ++ Y) := ⟨_, rfl⟩
  obtain ⟨FE, hFE⟩ : ∃ FE, FE = flagsE ([a0, a1, a2, a3] ++ Y) := ⟨_, rfl⟩
  have fit4 : ∀ z ∈ [a0, a1, a2, a3], Fits8 z := by
    intro z hz
    simp only [List.mem_cons, List.not_mem_nil, or_false] at hz
    rcases hz with rfl | rfl | rfl | rfl
    · exact H.out.2.2.1
    · exact H.out.2.2.2.1
    · exact H.out.2.2.2.2.1
    · exact H.out.2.2.2.2.2
  have HL : Hid (FB = flagsB ([a0, a1, a2, a3] ++ Y) ∧ FC = flagsC ([a0, a1, a2, a3] ++ Y) ∧ FE = flagsE ([a0, a1, a2, a3] ++ Y) ∧ ∀ z ∈ [a0, a1, a2, a3], Fits8 z) := ⟨hFB, hFC, hFE, fit4⟩
  clear hFB hFC hFE fit4
  go_enter Try.func8, Try.ntmps8
  go_wp2_with fail
  refine (gknown_any _).mono ?_
  rintro e w1 ⟨rfl, b1⟩
  have B1 : Hid (Below w.heap.size w w1) := b1
  clear b1
  go_upto_region 4 with fail
  obtain ⟨q1, hq1⟩ : ∃ q1, q1 = w1.heap.size := ⟨_, rfl⟩
  have bx : BIn (w1.alloc (.cells #[.int .u8 a0, .int .u8 a1, .int .u8 a2, .int .u8 a3] 5)) (some ⟨w1.heap.size, 0, none⟩) 4 [a0, a1, a2, a3] := new_bin rfl rfl rfl HL.out.2.2.2 (by unfold maxLen; omega)
  have bw : Below w.heap.size w (w1.alloc (.cells #[.int .u8 a0, .int .u8 a1, .int .u8 a2, .int .u8 a3] 5)) := B1.out.trans ((Below.refl _ _).alloc B1.out.size _)
  rw [← hq1] at bx ⊢
  generalize hU : World.alloc w1 _ = U at bx bw ⊢
  have B2 : Hid (BIn U (some ⟨q1, 0, none⟩) 4 [a0, a1, a2, a3] ∧ Below w.heap.size w U) := ⟨bx, bw⟩
  clear bx bw hU hq1
  go_wp2_with fail
  refine (lentBytes_of (some ⟨q1, 0, none⟩) 4 4 [a0, a1, a2, a3] U B2.out.1 (fun h => by cases h) (by omega)).mono ?_
  rintro e w3 ⟨A3, C3, rfl, ow3, b3⟩
  have B3 : Hid (w3.ownsRow U.heap.size 5 1 (.slice A3 4 C3) 4 (u8s [a0, a1, a2, a3]) ∧ Below U.heap.size U w3 ∧ BIn w3 a4 len4 Y) := ⟨ow3, b3, (H.out.1.below B2.out.2).below b3⟩
  clear ow3 b3
  go_upto_region 5 with (at_builtin; refine wpList_append_bin rfl (.tmp 34) (.tmp 35) rfl U.heap.size A3 4 C3 [a0, a1, a2, a3] rfl B3.out.1 a4 len4 cap4 Y rfl B3.out.2.2 H.out.2.1 (by omega) B3.out.2.1.size ?_; intro A4 C4 w4 ow4 b4)
  have B4 : Hid (BIn w4 A4 (4 + len4) ([a0, a1, a2, a3] ++ Y) ∧ (A4 = none → 4 + len4 = 0 ∧ C4 = 0) ∧ 4 + len4 ≤ C4 ∧ Below U.heap.size U w4) := by
    refine ⟨own_bin ow4 (by unfold maxLen; omega) ?_, own_nil ow4, own_capN ow4, B3.out.2.1.trans b4⟩
    intro z hz
    rcases List.mem_append.1 hz with hz | hz
    · exact HL.out.2.2.2 z hz
    · exact H.out.1.2.2.1 z hz
  clear ow4 b4
  go_wp2_with fail
  refine (flags_of A4 (4 + len4) C4 ([a0, a1, a2, a3] ++ Y) w4 B4.out.1 B4.out.2.1 B4.out.2.2.1 (by omega)).mono ?_
  rw [← HL.out.1, ← HL.out.2.1, ← HL.out.2.2.1]
  rintro e w5 ⟨rfl, b5⟩
  have B5 : Hid (BIn w5 (some ⟨q1, 0, none⟩) 4 [a0, a1, a2, a3] ∧ Below w.heap.size w w5) := by
    have hb : Below U.heap.size U w5 := B4.out.2.2.2.trans (b5.mono B4.out.2.2.2.size)
    exact ⟨B2.out.1.below hb, B2.out.2.trans (hb.mono B2.out.2.size)⟩
  clear b5
  have hsl := fun w => slice_front Try.underlying22 Try.one_bytes (some ⟨q1, 0, none⟩) 4 4 3 (by omega) w
  go_wp2_with fail
  refine (flags_of (some ⟨q1, 0, none⟩) 3 4 [a0, a1, a2] w5 (B5.out.1.n.front 3 (by omega)).b (fun h => by cases h) (by omega) (by omega)).mono ?_
  rw [(fl_three a0 a1 a2).1, (fl_three a0 a1 a2).2.1, (fl_three a0 a1 a2).2.2]
  rintro e w6 ⟨rfl, b6⟩
  have B6 : Hid (Below w.heap.size w w6) := B5.out.2.trans (b6.mono B5.out.2.size)
  clear b6 hsl
  by_cases hs : a0 = 0 ∧ a1 = 0 ∧ a2 = 0
  · by_cases hd : a3 = 1 ∨ a3 = 3
    · obtain ⟨r1, r2, r3⟩ := fl_yes a0 a1 a2 a3 Y ⟨hs.1, hs.2.1, hs.2.2, hd⟩
      obtain rfl : FE = 0 := HL.out.2.2.1.trans r3
      obtain rfl : FC = 4 := HL.out.2.1.trans r2
      have hB : FB = decide (a3 = 3) := HL.out.1.trans r1
      obtain ⟨rfl, rfl, rfl⟩ := hs
      clear r1 r2 r3 HL
      rcases hd with rfl | rfl
      · obtain rfl : FB = false := hB
        go_wp2
        go_ret
        exact ⟨rfl, B6.out⟩
      · obtain rfl : FB = true := hB
        go_wp2
        go_ret
        exact ⟨rfl, B6.out⟩
    · obtain ⟨r1, r2, r3⟩ := fl_no a0 a1 a2 a3 Y H.out.2.2.1 H.out.2.2.2.1 H.out.2.2.2.2.1 H.out.2.2.2.2.2 (fun h => hd h.2.2.2)
      obtain rfl : FE = 72 := HL.out.2.2.1.trans r3
      obtain rfl : FC = 0 := HL.out.2.1.trans r2
      obtain rfl : FB = false := HL.out.1.trans r1
      obtain ⟨rfl, rfl, rfl⟩ := hs
      have g1 : (a3 == 1) = false := by simp; omega
      have g3 : (a3 == 3) = false := by simp; omega
      clear r1 r2 r3 HL hd
      go_wp2
      go_ret
      exact ⟨rfl, B6.out⟩
  · obtain ⟨r1, r2, r3⟩ := fl_no a0 a1 a2 a3 Y H.out.2.2.1 H.out.2.2.2.1 H.out.2.2.2.2.1 H.out.2.2.2.2.2 (fun h => hs ⟨h.1, h.2.1, h.2.2.1⟩)
    obtain rfl : FE = 72 := HL.out.2.2.1.trans r3
    obtain rfl : FC = 0 := HL.out.2.1.trans r2
    obtain rfl : FB = false := HL.out.1.trans r1
    clear r1 r2 r3 HL
    by_cases e0 : a0 = 0
    · subst e0
      by_cases e1 : a1 = 0
      · subst e1
        have g2 : (a2 == 0) = false := by simp; omega
        clear hs
        go_wp2
        go_ret
        exact ⟨rfl, B6.out⟩
      · have g1 : (a1 == 0) = false := by simp [e1]
        clear hs e1
        go_wp2
        go_ret
        exact ⟨rfl, B6.out⟩
    · have g0 : (a0 == 0) = false := by simp [e0]
      clear hs e0
      go_wp2
      go_ret
      exact ⟨rfl, B6.out⟩

set_option maxRecDepth 100000 in
theorem lifted (os : Os) (started : os.Started) (H : Type) (enc : TypeId × Value → H) :
    ReturnsInHanded {} Try.checked os 8 .any (Rows.greetFlagsSpec.pre6 enc Try.prog Try.f8 Rows.greetFlagsRow.domain false) (Rows.greetFlagsSpec.post enc Try.prog Try.f8 false true false false) := by
  refine returnsInHanded_of_change (C := Try.checked) own started (by kernel_rfl) Try.func8
    (ChangeSpec.witness6 (enc := enc) (C := Try.checked) false ⟨#[], #[.int .u8 0, .int .u8 0, .int .u8 0, .int .u8 0, .slice none 0 0], []⟩ 8 (by kernel_rfl) (by kernel_rfl) (by kernel_rfl) (by kernel_rfl)) ?_
  intro W base args ds gs before hval0 hW hcnd _
  have hval : ∀ (j : Nat) t v, Try.f8.params[j]? = some t → args[j]? = some v → Value.okWide Try.prog W .any base t v := hval0
  have hW' := hW
  obtain ⟨p, q, hA0, hV, rfl, hfz, hnd⟩ := hW
  have hA : DataW.TrodAll enc Try.prog W 0 (fun _ => true) true Try.f8.params.toList args.toList ds p := hA0
  rw [Try.params8] at hA hval
  obtain ⟨v0, vs0, d0, ds0, p0, q0, hargs, rfl, rfl, h0, r0⟩ := trodAll_cons hA
  obtain ⟨v1, vs1, d1, ds1, p1, q1, rfl, rfl, rfl, h1, r1⟩ := trodAll_cons r0
  obtain ⟨v2, vs2, d2, ds2, p2, q2, rfl, rfl, rfl, h2, r2⟩ := trodAll_cons r1
  obtain ⟨v3, vs3, d3, ds3, p3, q3, rfl, rfl, rfl, h3, r3⟩ := trodAll_cons r2
  obtain ⟨v4, vs4, d4, ds4, p4, q4, rfl, rfl, rfl, h4, r4⟩ := trodAll_cons r3
  obtain ⟨rfl, rfl, rfl⟩ := trodAll_nil r4
  obtain rfl : args = #[v0, v1, v2, v3, v4] := by cases args; simp_all
  obtain ⟨rfl, rfl⟩ := trodVars_none hV
  obtain ⟨a0, rfl, rfl, rfl, w0⟩ := open_int Try.underlying5 (hval 0 5 v0 rfl rfl) h0
  obtain ⟨a1, rfl, rfl, rfl, w1⟩ := open_int Try.underlying5 (hval 1 5 v1 rfl rfl) h1
  obtain ⟨a2, rfl, rfl, rfl, w2⟩ := open_int Try.underlying5 (hval 2 5 v2 rfl rfl) h2
  obtain ⟨a3, rfl, rfl, rfl, w3⟩ := open_int Try.underlying5 (hval 3 5 v3 rfl rfl) h3
  obtain ⟨a4, len4, cap4, rfl⟩ := okWide_slice Try.underlying22 (hval 4 22 v4 rfl rfl)
  have k4 := h4
  have lt4 : ∀ x ∈ p4, x.block < W.heap.size := by obtain ⟨m, hm⟩ := k4; exact DataW.trod_lt m _ _ _ hm
  obtain ⟨z4, w4⟩ : ∃ zs, IsRow .u8 W a4 len4 cap4 zs := by
    obtain ⟨fuel, hf⟩ := h4
    rcases open_ints Try.underlying22 Try.underlying5 (by kernel_rfl) hf with ⟨hcs, _⟩ | ⟨x, l, c, zs, hcs, _, hl, hm, hz, _, hcell, hwz⟩
    · simp [Value.cells] at hcs
      obtain ⟨rfl, rfl, rfl⟩ := hcs
      exact ⟨[], .inl ⟨rfl, rfl, rfl, rfl⟩⟩
    · simp [Value.cells] at hcs
      obtain ⟨rfl, rfl, rfl⟩ := hcs
      exact ⟨zs, .inr ⟨_, rfl, hl, hm, by simpa using hz, hcell, hwz⟩⟩
  clear hA0 hval0
  refine (walk a0 a1 a2 a3 a4 len4 cap4 z4 W w0 w1 w2 w3 w4).mono fun e W' ⟨he, bel⟩ => ?_
  subst he
  exact ⟨_, rfl, _, _, _, [], _, [], hW', trodAll_mk1 (shut_bool Try.underlying4 _), (trodAll_cons_mk (shut_int Try.underlying5 w0) (trodAll_cons_mk (shut_int Try.underlying5 w1) (trodAll_cons_mk (shut_int Try.underlying5 w2) (trodAll_cons_mk (shut_int Try.underlying5 w3) (trodAll_cons_mk (Below.trod laidOut (by kernel_rfl) (of_decide_eq_true (by kernel_rfl)) k4 bel lt4) trodAll_mk0))))), rfl, bel.frame _, fun h => by cases h⟩

theorem over : Rows.greetFlagsRow.holds Try.pinned (OpenSpec.ofChange Rows.greetFlagsSpec) :=
  OpenClaim.holds_of_wide 8 Try.f8 rfl rfl rfl rfl rfl rfl rfl ⟨rfl, rfl, rfl, rfl, rfl⟩ rfl rfl rfl rfl rfl (by kernel_rfl) Try.func8 (by kernel_rfl)
    (of_decide_eq_true (by kernel_rfl)) (by unfold Func.isWrapper; first | (rw [if_pos (by decide +kernel)]; kernel_rfl) | (rw [if_neg (by decide +kernel)]; exact ⟨rfl, rfl⟩))
    (fun os started H enc _ => lifted os started H enc)

end Go.Proofs.Ytkegpgmmlmineaa.greetFlags
namespace Go.Proofs.Ytkegpgmmlmineaa
/-- The statement. -/
theorem greetFlags_holds : Rows.GreetFlagsSaid := greetFlags.over
#print axioms greetFlags_holds
end Go.Proofs.Ytkegpgmmlmineaa
