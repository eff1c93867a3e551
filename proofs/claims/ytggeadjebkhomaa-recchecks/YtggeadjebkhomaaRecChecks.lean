/- RecChecks holds: Check of any item and data and Ends of data are what the chapter says, and data of which one byte is another one are not what the item says; for data of up to 5000 bytes, beyond which the statement says nothing. -/
import Derived.Test.YtggeadjebkhomaaRows
import Derived.Test.YtggeadjebkhomaaRcChk
import Derived.WalkKit
import Derived.ProofKit
import Derived.OpenShut
import Derived.ShutString
import Derived.ChangeOld
import Derived.Below
namespace Go.Proofs.Ytggeadjebkhomaa.recChecks
open Go.ChangeShapes Go.WideShapes Go.ChangeAt Go.RowKit
open Go.ChangeMaps (open_string shut_string)
set_option linter.unusedVariables false

theorem own : ownKnob Try.prog.godebug = none := by kernel_rfl
theorem laidOut : laidOutB Try.prog = true := by kernel_rfl

theorem check_regrown {w : World} (x : It) (a : Option Addr) (n c : Nat) (zs : List Int) (hf : x.Fits) (h : BIn w a n zs) (d : Nat) (os : Array Obj) : Calls Try.prog 19 #[.agg #[.int .u32 x.t, .int .u64 x.b, .int .u8 x.k, .int .u32 x.s, .int .u16 x.e], .slice a n c] (Sort.grow (redrawn w d) os) fun e w'' => e = .returned (.bool (checkB x zs)) ∧ ∃ p : Regrown, w'' = Sort.grow (redrawn w p.d) p.os :=
  Calls.regrown_of (check_of x a n c zs _ hf (h.below (below_regrown w d os)))
theorem dCheck_regrown {w : World} (x : It) (a : Option Addr) (n c : Nat) (zs : List Int) (hf : x.Fits) (h : BIn w a n zs) (d : Nat) (os : Array Obj) : Calls Try.prog 20 #[.agg #[.int .u32 x.t, .int .u64 x.b, .int .u8 x.k, .int .u32 x.s, .int .u16 x.e], .slice a n c] (Sort.grow (redrawn w d) os) fun e w'' => e = .returned (.bool (checkB x zs)) ∧ ∃ p : Regrown, w'' = Sort.grow (redrawn w p.d) p.os :=
  Calls.regrown_of (dCheck_of x a n c zs _ hf (h.below (below_regrown w d os)))
set_option maxHeartbeats 4000000 in
theorem walk (x0 : It) (a1 : Option Addr) (len1 cap1 : Nat) (z1 : List Int) (a2 : Int) (a3 : Int) (w : World) (w0 : x0.Fits) (w1 : BIn w a1 len1 z1 ∧ len1 ≤ cap1 ∧ (a1 = none → len1 = 0 ∧ cap1 = 0)) (w2 : (Lit.int .i64 a2).wf = true) (w3 : (Lit.int .u8 a3).wf = true) :
    Calls Try.prog 7 #[.agg #[.int .u32 x0.t, .int .u64 x0.b, .int .u8 x0.k, .int .u32 x0.s, .int .u16 x0.e], .slice a1 len1 cap1, .int .i64 a2, .int .u8 a3] w fun e w' => e = .returned (.bool true) ∧ Below w.heap.size w w' := by
  obtain ⟨q, hq⟩ : ∃ q, q = w.heap.size := ⟨_, rfl⟩
  have kb : Blk (w.alloc (.cells #[.int .u32 x0.t, .int .u64 x0.b, .int .u8 x0.k, .int .u32 x0.s, .int .u16 x0.e] 47)) q (itL x0) 47 := Blk.new' hq.symm rfl
  have bw : Below w.heap.size w (w.alloc (.cells #[.int .u32 x0.t, .int .u64 x0.b, .int .u8 x0.k, .int .u32 x0.s, .int .u16 x0.e] 47)) := (Below.refl _ _).alloc (Nat.le_refl _) _
  have H : Hid (x0.Fits ∧ BIn w a1 len1 z1 ∧ (a1 = none → len1 = 0 ∧ cap1 = 0) ∧ Fits8 a3) := ⟨w0, w1.1, w1.2.2, fits8 w3⟩
  obtain ⟨M, hM⟩ : ∃ M : Nat, (if a2 < 0 then 0 else a2) = (M : Int) := ⟨(if a2 < 0 then 0 else a2).toNat, by split <;> omega⟩
  have HM : Hid ((if a2 < 0 then 0 else a2) = (M : Int)) := hM
  clear w0 w1 w2 w3 hM
  go_enter Try.func7, Try.ntmps7
  go_upto_region 1 with fail
  rw [← hq]
  generalize hW : World.alloc w _ = W at kb bw ⊢
  have HW : Hid (Blk W q (itL x0) 47 ∧ Below w.heap.size w W) := ⟨kb, bw⟩
  clear kb bw hW hq
  by_cases hl : 5000 < len1
  · have hl' : (5000 : Int) < len1 := by omega
    go_wp2_with (go_at_call 11; refine (cknown_any _).mono ?_; rintro e W1 ⟨rfl, b1⟩)
    go_ret
    exact ⟨rfl, HW.out.2.trans (b1.mono HW.out.2.size)⟩
  · have hl' : (len1 : Int) ≤ 5000 := by omega
    have HL : Hid (len1 ≤ 5000) := show len1 ≤ 5000 by omega
    clear hl
    go_upto_region 3 with (go_at_call 11; refine (cknown_any _).mono ?_; rintro e W1 ⟨rfl, b1⟩)
    have kb1 := HW.out.1.below b1 HW.out.1.lt
    have hb1 := HW.out.2.trans (b1.mono HW.out.2.size)
    have H1 : Hid (Blk W1 q (itL x0) 47 ∧ Below w.heap.size w W1 ∧ BIn W1 a1 len1 z1) := ⟨kb1, hb1, H.out.2.1.below hb1⟩
    have c0 : W1.cell? ⟨q, 0, none⟩ = some (.int .u32 x0.t) := kb1.cell 0
    have c1 : W1.cell? ⟨q, 1, none⟩ = some (.int .u64 x0.b) := kb1.cell 1
    have c2 : W1.cell? ⟨q, 2, none⟩ = some (.int .u8 x0.k) := kb1.cell 2
    have c3 : W1.cell? ⟨q, 3, none⟩ = some (.int .u32 x0.s) := kb1.cell 3
    have c4 : W1.cell? ⟨q, 4, none⟩ = some (.int .u16 x0.e) := kb1.cell 4
    have k0 := fun d os => cell_regrown c0 d os
    have k1 := fun d os => cell_regrown c1 d os
    have k2 := fun d os => cell_regrown c2 d os
    have k3 := fun d os => cell_regrown c3 d os
    have k4 := fun d os => cell_regrown c4 d os
    have cA := fun d os => check_regrown x0 a1 len1 cap1 z1 H.out.1 H1.out.2.2 d os
    have cB := fun d os => dCheck_regrown x0 a1 len1 cap1 z1 H.out.1 H1.out.2.2 d os
    have cC := fun d os => ends_regrown (c := cap1) a1 len1 z1 H1.out.2.2 d os
    have cD := fun d os => dEnds_regrown (c := cap1) a1 len1 z1 H1.out.2.2 d os
    obtain ⟨B, hB⟩ : ∃ B, B = checkB x0 z1 := ⟨_, rfl⟩
    obtain ⟨E, hE⟩ : ∃ E, E = endsN z1 := ⟨_, rfl⟩
    simp only [← hB] at cA cB
    simp only [← hE] at cC cD
    have hBB : (B != B) = false := by simp
    have hEE : ((E : Int) != (E : Int)) = false := by simp
    have HB : Hid (B = checkB x0 z1) := hB
    clear kb1 hb1 b1 hB hE c0 c1 c2 c3 c4
    refine wp_region_quiet_below (by kernel_rfl) (by kernel_rfl) ?_
    iterate 2 (quiet_step (fail))
    quiet_step (exact cA _ _)
    iterate 2 (quiet_step (fail))
    quiet_step (exact cB _ _)
    iterate 3 (quiet_step (fail))
    quiet_step (exact cC _ _)
    quiet_step (fail)
    quiet_step (exact cD _ _)
    iterate 2 (quiet_step (fail))
    refine wpQuiet_nil ?_
    intro W3 hw'
    have hb3 : Below W1.heap.size W1 W3 := by
      obtain ⟨⟨dq, osq⟩, hw''⟩ := hw'
      rw [hw'']
      exact below_regrown W1 dq osq
    have kb3 := H1.out.1.below hb3 H1.out.1.lt
    have hbw3 := H1.out.2.1.trans (hb3.mono H1.out.2.1.size)
    have H3 : Hid (Blk W3 q (itL x0) 47 ∧ Below w.heap.size w W3 ∧ BIn W3 a1 len1 z1) := ⟨kb3, hbw3, H.out.2.1.below hbw3⟩
    have d0 : W3.cell? ⟨q, 0, none⟩ = some (.int .u32 x0.t) := kb3.cell 0
    have d1 : W3.cell? ⟨q, 1, none⟩ = some (.int .u64 x0.b) := kb3.cell 1
    have d2 : W3.cell? ⟨q, 2, none⟩ = some (.int .u8 x0.k) := kb3.cell 2
    have d3 : W3.cell? ⟨q, 3, none⟩ = some (.int .u32 x0.s) := kb3.cell 3
    have d4 : W3.cell? ⟨q, 4, none⟩ = some (.int .u16 x0.e) := kb3.cell 4
    clear kb3 hbw3 hb3 hw' k0 k1 k2 k3 k4 cA cB cC cD hBB hEE
    by_cases hn : len1 = 0
    · have hn' : ((len1 : Int) == 0) = true := by simp [hn]
      have hn2 : (len1 : Int) = 0 := by omega
      clear hn
      go_wp2
      go_ret
      exact ⟨rfl, H3.out.2.1⟩
    · have hn' : ((len1 : Int) == 0) = false := by simp; omega
      have HN : Hid (0 < len1) := show 0 < len1 by omega
      have hn2 : ¬ (len1 : Int) = 0 := by omega
      clear hn
      have cA := check_of x0 a1 len1 cap1 z1 W3 H.out.1 H3.out.2.2
      rw [← HB.out] at cA
      cases hBv : B with
      | false =>
        rw [hBv] at cA
        clear hBv
        go_wp2_with (go_at_call 19; refine cA.mono ?_; rintro e W4 ⟨rfl, b4⟩)
        go_ret
        exact ⟨rfl, H3.out.2.1.trans (b4.mono H3.out.2.1.size)⟩
      | true =>
        have HC : Hid (checkB x0 z1 = true) := by show _ = _; rw [← HB.out]; exact hBv
        rw [hBv] at cA
        clear hBv HB
        go_upto_region 7 with (go_at_call 19; refine cA.mono ?_; rintro e W4 ⟨rfl, b4⟩)
        have kb4 := H3.out.1.below b4 H3.out.1.lt
        have hb4 := H3.out.2.1.trans (b4.mono H3.out.2.1.size)
        have H4 : Hid (Blk W4 q (itL x0) 47 ∧ Below w.heap.size w W4 ∧ BIn W4 a1 len1 z1) := ⟨kb4, hb4, H.out.2.1.below hb4⟩
        clear kb4 hb4 b4 cA d0 d1 d2 d3 d4
        obtain ⟨t, ht⟩ : ∃ t, t = M % len1 := ⟨_, rfl⟩
        have htN : t < len1 := by rw [ht]; exact Nat.mod_lt _ HN.out
        have htt : Int.tmod (M : Int) (len1 : Int) = (t : Int) := by rw [ht, Int.tmod_eq_emod_of_nonneg (by omega)]; omega
        have hM := HM.out
        have HT : Hid (t < len1) := htN
        clear ht htN
        go_upto_region 9 with (go_at_call 15; refine (lentBytes_of a1 len1 cap1 z1 W4 H4.out.2.2 H.out.2.2.1 (by have := HL.out; omega)).mono ?_; rintro e W5 ⟨A5, C5, rfl, ow5, b5⟩)
        obtain ⟨g, hA, hgB⟩ : ∃ g, A5 = some ⟨g, 0, none⟩ ∧ W4.heap.size ≤ g := by
          rcases ow5.2 with ⟨_, hz⟩ | ⟨g, cap, cur, hv, hbg, _⟩
          · have := HN.out; omega
          · cases hv; exact ⟨g, rfl, hbg⟩
        subst hA
        obtain ⟨y, hy⟩ : ∃ y, z1[t]? = some y := ⟨z1[t]'(by have := H.out.2.1.1; have := HT.out; omega), by simp⟩
        have cy : W5.cell? ⟨g, t, none⟩ = some (.int .u8 y) := by rw [ow5.cellAt t (by have := HT.out; omega)]; simp [u8s, hy]
        have fy := ow5.frozenAt t
        obtain ⟨s1, _⟩ := ow5.stored t (.int .u8 a3)
        have es : (u8s z1).set t (.int .u8 a3) = u8s (z1.set t a3) := by simp [u8s, List.map_set]
        rw [es] at s1
        have ht' : (t : Int) < len1 := by have := HT.out; omega
        have hfit5 : ∀ z ∈ z1.set t a3, Fits8 z := by
          intro z hz
          rcases List.mem_or_eq_of_mem_set hz with h | h
          · exact H.out.2.1.2.2.1 z h
          · rw [h]; exact H.out.2.2.2
        have bin5 := own_bin s1 (by have := HL.out; unfold maxLen; omega) hfit5
        have hqg : q ≠ g := by have := H4.out.1.lt; omega
        have kb5 := (H4.out.1.below b5 H4.out.1.lt).set_other (a := ⟨g, t, none⟩) hqg (.int .u8 a3)
        have bl5 := (H4.out.2.1.trans (b5.mono H4.out.2.1.size)).setCell (p := ⟨g, t, none⟩) (by show w.heap.size ≤ g; have := H4.out.2.1.size; omega) (.int .u8 a3)
        have hfin : checkB x0 (z1.set t a3) = (y == a3) := by
          have hi : t < z1.length := by have := H.out.2.1.1; have := HT.out; omega
          have hyy : z1[t] = y := by rw [List.getElem?_eq_getElem hi] at hy; simpa using hy
          by_cases hyc : y = a3
          · have : z1.set t a3 = z1 := by rw [← hyc, ← hyy]; exact List.set_getElem_self hi
            rw [this, HC.out]
            simp [hyc]
          · have hs : ¬ crI 0 (z1.set t a3) = crI 0 z1 := fun e => hyc (by rw [set_other_sum hi H.out.2.1.2.2.1 H.out.2.2.2 e, hyy])
            have h1 := HC.out
            unfold checkB at h1 ⊢
            simp only [decide_eq_true_eq] at h1
            rw [decide_eq_false (fun h => hs (by rw [← h.2.2, ← h1.2.2]))]
            simp [hyc]
        clear ow5 s1 es hfit5 hgB b5 hM htt
        go_upto_region 10 with fail
        generalize hW6 : World.setCell W5 _ _ = W6 at bin5 kb5 bl5 ⊢
        have binz := H.out.2.1.below bl5
        have cz : W6.cell? ⟨(a1.getD ⟨0, 0, none⟩).block, (a1.getD ⟨0, 0, none⟩).off + t, none⟩ = some (.int .u8 y) := by
          obtain ⟨b1, o1, rfl, hc1⟩ := binz.2.2.2.resolve_left (by have := HN.out; omega)
          have := hc1 t HT.out
          rw [show z1.getD t 0 = y by simp [List.getD, hy]] at this
          exact this
        obtain ⟨b1, o1, rfl, _⟩ := binz.2.2.2.resolve_left (by have := HN.out; omega)
        replace cz : W6.cell? ⟨b1, o1 + t, none⟩ = some (.int .u8 y) := cz
        have e0 : W6.cell? ⟨q, 0, none⟩ = some (.int .u32 x0.t) := kb5.cell 0
        have e1 : W6.cell? ⟨q, 1, none⟩ = some (.int .u64 x0.b) := kb5.cell 1
        have e2 : W6.cell? ⟨q, 2, none⟩ = some (.int .u8 x0.k) := kb5.cell 2
        have e3 : W6.cell? ⟨q, 3, none⟩ = some (.int .u32 x0.s) := kb5.cell 3
        have e4 : W6.cell? ⟨q, 4, none⟩ = some (.int .u16 x0.e) := kb5.cell 4
        have k0 := fun d os => cell_regrown e0 d os
        have k1 := fun d os => cell_regrown e1 d os
        have k2 := fun d os => cell_regrown e2 d os
        have k3 := fun d os => cell_regrown e3 d os
        have k4 := fun d os => cell_regrown e4 d os
        have kz := fun d os => cell_regrown cz d os
        have cA := fun d os => check_regrown x0 (some ⟨g, 0, none⟩) len1 C5 (z1.set t a3) H.out.1 bin5 d os
        simp only [hfin] at cA
        have HZ : Hid (Below w.heap.size w W6) := bl5
        clear bin5 kb5 bl5 hW6 binz hfin e0 e1 e2 e3 e4 cz hy cy fy
        refine wp_region_quiet_below (by kernel_rfl) (by kernel_rfl) ?_
        iterate 2 (quiet_step (fail))
        quiet_step (exact cA _ _)
        iterate 8 (quiet_step (fail))
        refine wpQuiet_nil ?_
        intro _ hw'
        obtain ⟨⟨dq, osq⟩, hw''⟩ := hw'
        subst hw''
        go_wp2
        go_ret
        exact ⟨by simp, HZ.out.trans ((below_regrown W6 dq osq).mono HZ.out.size)⟩

set_option maxRecDepth 100000 in
theorem lifted (os : Os) (started : os.Started) (H : Type) (enc : TypeId × Value → H) :
    ReturnsInHanded {} Try.checked os 7 .any (Rows.recChecksSpec.pre6 enc Try.prog Try.f7 Rows.recChecksRow.domain false) (Rows.recChecksSpec.post enc Try.prog Try.f7 false true false false) := by
  refine returnsInHanded_of_change (C := Try.checked) own started (by kernel_rfl) Try.func7
    (ChangeSpec.witness6 (enc := enc) (C := Try.checked) false ⟨#[], #[.agg #[.int .u32 0, .int .u64 0, .int .u8 0, .int .u32 0, .int .u16 0], .slice none 0 0, .int .i64 0, .int .u8 0], []⟩ 8 (by kernel_rfl) (by kernel_rfl) (by kernel_rfl) (by kernel_rfl)) ?_
  intro W base args ds gs before hval0 hW hcnd _
  have hval : ∀ (j : Nat) t v, Try.f7.params[j]? = some t → args[j]? = some v → Value.okWide Try.prog W .any base t v := hval0
  have hW' := hW
  obtain ⟨p, q, hA0, hV, rfl, hfz, hnd⟩ := hW
  have hA : DataW.TrodAll enc Try.prog W 0 (fun _ => true) true Try.f7.params.toList args.toList ds p := hA0
  rw [Try.params7] at hA hval
  obtain ⟨v0, vs0, d0, ds0, p0, q0, hargs, rfl, rfl, h0, r0⟩ := trodAll_cons hA
  obtain ⟨v1, vs1, d1, ds1, p1, q1, rfl, rfl, rfl, h1, r1⟩ := trodAll_cons r0
  obtain ⟨v2, vs2, d2, ds2, p2, q2, rfl, rfl, rfl, h2, r2⟩ := trodAll_cons r1
  obtain ⟨v3, vs3, d3, ds3, p3, q3, rfl, rfl, rfl, h3, r3⟩ := trodAll_cons r2
  obtain ⟨rfl, rfl, rfl⟩ := trodAll_nil r3
  obtain rfl : args = #[v0, v1, v2, v3] := by cases args; simp_all
  obtain ⟨rfl, rfl⟩ := trodVars_none hV
  have k0 := h0
  have lt0 : ∀ x ∈ p0, x.block < W.heap.size := by obtain ⟨m, hm⟩ := k0; exact DataW.trod_lt m _ _ _ hm
  obtain ⟨x0, rfl, w0⟩ := open_item (hval 0 47 v0 rfl rfl) h0
  obtain ⟨a1, len1, cap1, rfl⟩ := okWide_slice Try.underlying26 (hval 1 26 v1 rfl rfl)
  have k1 := h1
  have lt1 : ∀ x ∈ p1, x.block < W.heap.size := by obtain ⟨m, hm⟩ := k1; exact DataW.trod_lt m _ _ _ hm
  obtain ⟨z1, w1⟩ := open_bytes h1
  obtain ⟨a2, rfl, rfl, rfl, w2⟩ := open_int Try.underlying3 (hval 2 3 v2 rfl rfl) h2
  obtain ⟨a3, rfl, rfl, rfl, w3⟩ := open_int Try.underlying5 (hval 3 5 v3 rfl rfl) h3
  clear hA0 hval0
  refine (walk x0 a1 len1 cap1 z1 a2 a3 W w0 w1 w2 w3).mono fun e W' ⟨he, bel⟩ => ?_
  subst he
  exact ⟨_, rfl, _, _, _, [], _, [], hW', trodAll_mk1 (shut_bool Try.underlying4 _), (trodAll_cons_mk (Below.trod laidOut (by kernel_rfl) (of_decide_eq_true (by kernel_rfl)) k0 bel lt0) (trodAll_cons_mk (Below.trod laidOut (by kernel_rfl) (of_decide_eq_true (by kernel_rfl)) k1 bel lt1) (trodAll_cons_mk (shut_int Try.underlying3 w2) (trodAll_cons_mk (shut_int Try.underlying5 w3) trodAll_mk0)))), rfl, bel.frame _, fun h => by cases h⟩

theorem over : Rows.recChecksRow.holds Try.pinned (OpenSpec.ofChange Rows.recChecksSpec) :=
  OpenClaim.holds_of_wide 7 Try.f7 rfl rfl rfl rfl rfl rfl rfl ⟨rfl, rfl, rfl, rfl, rfl⟩ rfl rfl rfl rfl rfl (by kernel_rfl) Try.func7 (by kernel_rfl)
    (of_decide_eq_true (by kernel_rfl)) (by unfold Func.isWrapper; first | (rw [if_pos (by decide +kernel)]; kernel_rfl) | (rw [if_neg (by decide +kernel)]; exact ⟨rfl, rfl⟩))
    (fun os started H enc _ => lifted os started H enc)

end Go.Proofs.Ytggeadjebkhomaa.recChecks
namespace Go.Proofs.Ytggeadjebkhomaa
/-- The statement. -/
theorem recChecks_holds : Rows.RecChecksSaid := recChecks.over
#print axioms recChecks_holds
end Go.Proofs.Ytggeadjebkhomaa
