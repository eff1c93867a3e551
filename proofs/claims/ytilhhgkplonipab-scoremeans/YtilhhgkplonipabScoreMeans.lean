/- What is no number makes no difference to a mean; the mean of one number is it; of none it is no number. -/
import Derived.Test.YtilhhgkplonipabRows
import Derived.Test.YtilhhgkplonipabFRef
import Derived.Test.YtilhhgkplonipabFMean
import Derived.WalkKit
import Derived.ProofKit
import Derived.OpenShut
import Derived.ShutString
import Derived.ChangeOld
import Derived.Below
namespace Go.Proofs.Ytilhhgkplonipab.scoreMeans
open Go.ChangeShapes Go.WideShapes Go.ChangeAt Go.RowKit
open Go.ChangeMaps (open_string shut_string)
set_option linter.unusedVariables false      -- a walk need not use every 'w<i>' (that an integer argument fits its kind)

theorem own : ownKnob Try.prog.godebug = none := by kernel_rfl

theorem laidOut : laidOutB Try.prog = true := by kernel_rfl

set_option maxRecDepth 10000 in
set_option maxHeartbeats 4000000 in
theorem walk (a0 : Option Addr) (n0 c0 : Nat) (z0 : List Nat) (a1 : Int) (a2 : Nat) (w : World) (w0 : FIn w a0 n0 z0 ∧ n0 ≤ c0 ∧ (a0 = none → n0 = 0 ∧ c0 = 0)) (w1 : (Lit.int .i64 a1).wf = true) (w2 : (Lit.float .f64 a2).wf = true) :
    Calls Try.prog 3 #[.slice a0 n0 c0, .int .i64 a1, .float .f64 a2] w fun e w' => e = .returned (.bool true) ∧ Below w.heap.size w w' := by
  obtain ⟨hin, hnc, hnil⟩ := w0
  have hx2 : a2 < 2 ^ 64 := by simpa [Lit.wf] using w2
  have hM : ∃ M : Nat, (if a1 < 0 then 0 else a1) = (M : Int) := by
    by_cases h : a1 < 0
    · exact ⟨0, by rw [if_pos h]; rfl⟩
    · exact ⟨a1.toNat, by rw [if_neg h, Int.toNat_of_nonneg (by omega)]⟩
  obtain ⟨M, hM⟩ := hM
  have H : Hid (FIn w a0 n0 z0 ∧ n0 ≤ c0 ∧ (a0 = none → n0 = 0 ∧ c0 = 0) ∧ a2 < 2 ^ 64) := ⟨hin, hnc, hnil, hx2⟩
  obtain ⟨q, hq⟩ : ∃ q, q = w.heap.size := ⟨_, rfl⟩
  have HQ : Hid (q = w.heap.size) := hq
  rw [← hq]
  clear hin hnc hnil hq w1 w2 hx2
  by_cases h1 : (200 : Int) < n0
  · have d1 : decide ((200 : Int) < n0) = true := decide_eq_true h1
    clear hM
    go_enter Try.func3, Try.ntmps3
    go_wp2_with fail
    refine (known_any w).mono ?_
    rintro e W1 ⟨rfl, b1⟩
    have B1 : Hid (Below q w W1) := by rw [HQ.out]; exact b1
    clear b1
    go_wp2
    go_ret
    exact ⟨rfl, B1.out⟩
  have d1 : decide ((200 : Int) < n0) = false := decide_eq_false h1
  have n1 : n0 ≤ 200 := by omega
  clear h1
  obtain ⟨t, ht⟩ : ∃ t : Nat, (M : Int) % ((n0 : Int) + 1) = t := ⟨((M : Int) % ((n0 : Int) + 1)).toNat, (Int.toNat_of_nonneg (Int.emod_nonneg _ (by omega))).symm⟩
  have htn : t ≤ n0 := by have := Int.emod_lt_of_pos (M : Int) (show (0 : Int) < (n0 : Int) + 1 by omega); omega
  have hsl := fun W => slice_front Try.underlying22 Try.one_f64s a0 n0 c0 t (by have := H.out.2.1; omega) W
  have hsb := fun W => slice_back Try.underlying22 Try.one_f64s a0 n0 c0 t htn W
  go_enter Try.func3, Try.ntmps3
  go_wp2_with fail
  refine (known_any w).mono ?_
  rintro e W1 ⟨rfl, b1⟩
  have B1 : Hid (Below q w W1 ∧ FIn W1 a0 n0 z0) := ⟨by rw [HQ.out]; exact b1, H.out.1.below b1⟩
  clear b1 d1
  go_wp2_with fail
  refine (ratio_of 0 0 W1).mono ?_
  rintro e V0 ⟨x, rfl, hx, d0⟩
  rw [rat00] at hx
  have HT : Hid (t ≤ n0 ∧ Below q w V0 ∧ FIn V0 a0 n0 z0 ∧ q ≤ V0.heap.size ∧ Nan x ∧ x < 2 ^ 64) := by
    have hb : Below q w V0 := d0.below B1.out.1
    refine ⟨htn, hb, B1.out.2.drawn d0, ?_, cls_none hx, hx.1⟩
    have := hb.size
    rw [HQ.out]
    exact this
  clear hx d0 B1
  obtain ⟨g, hg⟩ : ∃ g, g = V0.heap.size := ⟨_, rfl⟩
  have HG : Hid (g = V0.heap.size) := hg
  clear hg
  go_upto_region 7 with (at_builtin; refine wpList_append_fin rfl (.tmp 26) (.tmp 29) rfl g none 0 0 [] rfl (World.ownsRow_nil _ _ _ _) a0 t c0 (z0.take t) rfl (HT.out.2.2.1.front t HT.out.1) (fun e => by have := H.out.2.2.1 e; have := HT.out.1; omega) (by omega) (by rw [HG.out]; exact Nat.le_refl _) ?_; intro A1 C1 V1 ow1 b1; simp only [Nat.zero_add, List.nil_append] at ow1 ⊢)
  have H1 : Hid (V1.ownsRow g 23 1 (.slice A1 t C1) t (fvs (z0.take t)) ∧ Below g V0 V1 ∧ g ≤ V1.heap.size) := ⟨ow1, b1, by have := b1.size; rw [← HG.out] at this; exact this⟩
  clear ow1 b1
  go_upto_region 8 with (at_builtin; refine wpList_append_fin rfl (.tmp 31) (.tmp 33) rfl g A1 t C1 (z0.take t) rfl (H1.out.1.alloc _) (some ⟨V1.heap.size, 0, none⟩) 1 1 [x] rfl (one_fin rfl HT.out.2.2.2.2.2) (fun e => by cases e) (by omega) (by have := H1.out.2.2; simp; omega) ?_; intro A2 C2 V3 ow3 b3)
  have H3 : Hid (V3.ownsRow g 23 1 (.slice A2 (t + 1) C2) (t + 1) (fvs (z0.take t ++ [x])) ∧ Below g V0 V3 ∧ g ≤ V3.heap.size) := by
    have bb : Below g V0 V3 := (H1.out.2.1.alloc H1.out.2.2 _).trans b3
    exact ⟨ow3, bb, by have := bb.size; rw [← HG.out] at this; exact this⟩
  clear ow3 b3
  obtain ⟨A, hA⟩ : ∃ A, A = (if c0 = t then a0 else a0.map (·.add t)) := ⟨_, rfl⟩
  have HA : Hid (FIn V3 A (n0 - t) (z0.drop t) ∧ (A = none → n0 - t = 0 ∧ c0 - t = 0)) := by
    rw [hA]
    refine ⟨?_, back_nil H.out.2.2.1⟩
    refine FIn.back (HT.out.2.2.1.below ?_) t HT.out.1 H.out.2.1
    rw [← HG.out]
    exact H3.out.2.1
  rw [← hA] at hsb
  clear hA
  obtain ⟨r, hr⟩ : ∃ r, r = n0 - t := ⟨_, rfl⟩
  rw [← hr] at hsb HA
  have HR : Hid (r = n0 - t) := hr
  clear hr
  go_upto_region 9 with (at_builtin; refine wpList_append_fin rfl (.tmp 35) (.tmp 38) rfl g A2 (t + 1) C2 (z0.take t ++ [x]) rfl H3.out.1 A r (c0 - t) (z0.drop t) rfl HA.out.1 HA.out.2 (by have := HR.out; omega) H3.out.2.2 ?_; intro A4 C4 V4 ow4 b4)
  have hfit : ∀ z ∈ z0.take t ++ [x] ++ z0.drop t, z < 2 ^ 64 := by
    intro z hz
    rcases List.mem_append.1 hz with h | h
    · rcases List.mem_append.1 h with h | h
      · exact H.out.1.2.2.1 z (List.mem_of_mem_take h)
      · simp at h; rw [h]; exact HT.out.2.2.2.2.2
    · exact H.out.1.2.2.1 z (List.mem_of_mem_drop h)
  obtain ⟨L, hL⟩ : ∃ L, L = z0.take t ++ [x] ++ z0.drop t := ⟨_, rfl⟩
  have hmean : meanC L = meanC z0 := by rw [hL]; exact mean_ins z0 t x HT.out.2.2.2.2.1
  have H4 : Hid (FIn V4 A4 (t + 1 + r) L ∧ Below q w V4 ∧ FIn V4 a0 n0 z0 ∧ q ≤ V4.heap.size ∧ meanC L = meanC z0) := by
    have b4' : Below g V0 V4 := H3.out.2.1.trans b4
    have b5 : Below q w V4 := HT.out.2.1.trans (b4'.mono (by rw [HG.out]; exact HT.out.2.2.2.1))
    refine ⟨by rw [hL]; exact own_fin ow4 (by have := HR.out; unfold maxLen; omega) hfit, b5, HT.out.2.2.1.below (by rw [← HG.out]; exact b4'), ?_, hmean⟩
    have := b5.size
    rw [HQ.out]
    exact this
  have hlen : t + 1 + r ≤ 1000000 := by have := HR.out; have := HT.out.1; omega
  clear ow4 b4 hfit hL hmean hsl hsb ht htn hM H1 H3 HA HG HT
  go_wp2_with fail
  refine (mean_of _ 1 1 [a2] _ (one_fin rfl H.out.2.2.2) (by omega)).mono ?_
  rintro e V5 ⟨y, rfl, hy, d5⟩
  have H5 : Hid (Below q w V5 ∧ FIn V5 a0 n0 z0 ∧ FIn V5 A4 (t + 1 + r) L ∧ Cls (meanC [a2]) y) := ⟨d5.below (H4.out.2.1.alloc H4.out.2.2.2.1 _), (H4.out.2.2.1.alloc _).drawn d5, (H4.out.1.alloc _).drawn d5, hy⟩
  clear hy d5
  have o0 : FloatKind.f64.format.order 0 0 = some .eq := by decide +kernel
  by_cases hz : rung a2 = 0
  · have hn : ¬ Nan a2 := by unfold Nan; rw [hz]; decide
    have o := order_zero a2 hn
    rw [if_pos hz] at o
    have e1 := mean_zero a2 hn H.out.2.2.2 hz
    have H6 : Hid (Cls (some 0) y) := by have := H5.out.2.2.2; rw [e1] at this; exact this
    obtain rfl : y = 0 := cls_some H6.out
    clear hz hn e1 H6
    go_wp2_with fail
    refine (mean_of A4 (t + 1 + r) C4 L V5 H5.out.2.2.1 hlen).mono ?_
    rintro e V6 ⟨y6, rfl, hy6, d6⟩
    rw [H4.out.2.2.2.2] at hy6
    have H6 : Hid (Below q w V6 ∧ FIn V6 a0 n0 z0 ∧ Cls (meanC z0) y6) := ⟨d6.below H5.out.1, H5.out.2.1.drawn d6, hy6⟩
    clear hy6 d6
    go_wp2_with fail
    refine (mean_of a0 n0 c0 z0 V6 H6.out.2.1 (by omega)).mono ?_
    rintro e V7 ⟨y7, rfl, hy7, d7⟩
    have H7 : Hid (Below q w V7 ∧ Cls (meanC z0) y7) := ⟨d7.below H6.out.1, hy7⟩
    clear hy7 d7
    go_wp2_with fail
    refine (same_of (meanC z0) y6 y7 H6.out.2.2 H7.out.2 V7).mono ?_
    rintro e V7 ⟨rfl, rfl⟩
    go_wp2_with fail
    refine (mean_of none 0 0 [] V7 (fin_none _) (by omega)).mono ?_
    rintro e V8 ⟨y8, rfl, hy8, d8⟩
    rw [mean_nil] at hy8
    have H8 : Hid (Below q w V8 ∧ Nan y8 ∧ y8 < 2 ^ 64) := ⟨d8.below H7.out.1, cls_none hy8, hy8.1⟩
    clear hy8 d8
    have k1 : kindI y8 = 1 := (kind_one y8).2 H8.out.2.1
    go_wp2_with fail
    refine (kind_of y8 H8.out.2.2 V8).mono ?_
    rintro e V8 ⟨rfl, rfl⟩
    go_wp2
    go_ret
    exact ⟨rfl, H8.out.1⟩
  · have o : (FloatKind.f64.format.order a2 0 == some Ordering.eq) = false := by
      by_cases hn : Nan a2
      · rw [fmt64, order_nan_left a2 0 hn]; rfl
      · rw [order_zero a2 hn, if_neg hz]; split <;> rfl
    have hs : ∃ c, Cls c y ∧ Cls c a2 := by
      have h5 := H5.out.2.2.2
      by_cases hn : Nan a2
      · rw [mean_nan a2 hn] at h5
        exact ⟨none, h5, H.out.2.2.2, hn⟩
      · rw [mean_num a2 hn H.out.2.2.2 hz] at h5
        exact ⟨some a2, h5, cls_num a2 hn H.out.2.2.2⟩
    obtain ⟨cc, hs⟩ := hs
    have HS : Hid (Cls cc y ∧ Cls cc a2) := hs
    clear hz hs
    go_wp2_with fail
    refine (mean_of A4 (t + 1 + r) C4 L V5 H5.out.2.2.1 hlen).mono ?_
    rintro e V6 ⟨y6, rfl, hy6, d6⟩
    rw [H4.out.2.2.2.2] at hy6
    have H6 : Hid (Below q w V6 ∧ FIn V6 a0 n0 z0 ∧ Cls (meanC z0) y6) := ⟨d6.below H5.out.1, H5.out.2.1.drawn d6, hy6⟩
    clear hy6 d6
    go_wp2_with fail
    refine (mean_of a0 n0 c0 z0 V6 H6.out.2.1 (by omega)).mono ?_
    rintro e V7 ⟨y7, rfl, hy7, d7⟩
    have H7 : Hid (Below q w V7 ∧ Cls (meanC z0) y7) := ⟨d7.below H6.out.1, hy7⟩
    clear hy7 d7
    go_wp2_with fail
    refine (same_of (meanC z0) y6 y7 H6.out.2.2 H7.out.2 V7).mono ?_
    rintro e V7 ⟨rfl, rfl⟩
    go_wp2_with fail
    refine (same_of cc y a2 HS.out.1 HS.out.2 V7).mono ?_
    rintro e V7 ⟨rfl, rfl⟩
    go_wp2_with fail
    refine (mean_of none 0 0 [] V7 (fin_none _) (by omega)).mono ?_
    rintro e V8 ⟨y8, rfl, hy8, d8⟩
    rw [mean_nil] at hy8
    have H8 : Hid (Below q w V8 ∧ Nan y8 ∧ y8 < 2 ^ 64) := ⟨d8.below H7.out.1, cls_none hy8, hy8.1⟩
    clear hy8 d8
    have k1 : kindI y8 = 1 := (kind_one y8).2 H8.out.2.1
    go_wp2_with fail
    refine (kind_of y8 H8.out.2.2 V8).mono ?_
    rintro e V8 ⟨rfl, rfl⟩
    go_wp2
    go_ret
    exact ⟨rfl, H8.out.1⟩

set_option maxRecDepth 100000 in
theorem lifted (os : Os) (started : os.Started) (H : Type) (enc : TypeId × Value → H) :
    ReturnsInHanded {} Try.checked os 3 .any (Rows.scoreMeansSpec.pre6 enc Try.prog Try.f3 Rows.scoreMeansRow.domain false) (Rows.scoreMeansSpec.post enc Try.prog Try.f3 false true false false) := by
  refine returnsInHanded_of_change (C := Try.checked) own started (by kernel_rfl) Try.func3
    (ChangeSpec.witness6 (enc := enc) (C := Try.checked) false ⟨#[], #[.slice none 0 0, .int .i64 0, .float .f64 0], []⟩ 8 (by kernel_rfl) (by kernel_rfl) (by kernel_rfl) (by kernel_rfl)) ?_
  intro W base args ds gs before hval0 hW hcnd _
  have hval : ∀ (j : Nat) t v, Try.f3.params[j]? = some t → args[j]? = some v → Value.okWide Try.prog W .any base t v := hval0
  have hW' := hW
  obtain ⟨p, q, hA0, hV, rfl, hfz, hnd⟩ := hW
  have hA : DataW.TrodAll enc Try.prog W 0 (fun _ => true) true Try.f3.params.toList args.toList ds p := hA0
  rw [Try.params3] at hA hval
  obtain ⟨v0, vs0, d0, ds0, p0, q0, hargs, rfl, rfl, h0, r0⟩ := trodAll_cons hA
  obtain ⟨v1, vs1, d1, ds1, p1, q1, rfl, rfl, rfl, h1, r1⟩ := trodAll_cons r0
  obtain ⟨v2, vs2, d2, ds2, p2, q2, rfl, rfl, rfl, h2, r2⟩ := trodAll_cons r1
  obtain ⟨rfl, rfl, rfl⟩ := trodAll_nil r2
  obtain rfl : args = #[v0, v1, v2] := by cases args; simp_all
  obtain ⟨rfl, rfl⟩ := trodVars_none hV
  obtain ⟨a0, n0, c0, rfl⟩ := okWide_slice Try.underlying22 (hval 0 22 v0 rfl rfl)
  have k0 := h0
  have lt0 : ∀ x ∈ p0, x.block < W.heap.size := by obtain ⟨m, hm⟩ := k0; exact DataW.trod_lt m _ _ _ hm
  obtain ⟨z0, w0⟩ := open_f64s h0
  obtain ⟨a1, rfl, rfl, rfl, w1⟩ := open_int Try.underlying3 (hval 1 3 v1 rfl rfl) h1
  obtain ⟨a2, rfl, rfl, rfl, w2⟩ := open_float Try.underlying23 (hval 2 23 v2 rfl rfl) h2
  clear hA0 hval0
  refine (walk a0 n0 c0 z0 a1 a2 W w0 w1 w2).mono fun e W' ⟨he, bel⟩ => ?_
  subst he
  exact ⟨_, rfl, _, _, _, [], _, [], hW', trodAll_mk1 (shut_bool Try.underlying4 _), (trodAll_cons_mk (Below.trod laidOut (by kernel_rfl) (of_decide_eq_true (by kernel_rfl)) k0 bel lt0) (trodAll_cons_mk (shut_int Try.underlying3 w1) (trodAll_cons_mk (shut_float Try.underlying23 w2) trodAll_mk0))), rfl, bel.frame _, fun h => by cases h⟩

theorem over : Rows.scoreMeansRow.holds Try.pinned (OpenSpec.ofChange Rows.scoreMeansSpec) :=
  OpenClaim.holds_of_wide 3 Try.f3 rfl rfl rfl rfl rfl rfl rfl ⟨rfl, rfl, rfl, rfl, rfl⟩ rfl rfl rfl rfl rfl (by kernel_rfl) Try.func3 (by kernel_rfl)
    (of_decide_eq_true (by kernel_rfl)) (by unfold Func.isWrapper; first | (rw [if_pos (by decide +kernel)]; kernel_rfl) | (rw [if_neg (by decide +kernel)]; exact ⟨rfl, rfl⟩))
    (fun os started H enc _ => lifted os started H enc)

end Go.Proofs.Ytilhhgkplonipab.scoreMeans
namespace Go.Proofs.Ytilhhgkplonipab
/-- The statement. -/
theorem scoreMeans_holds : Rows.ScoreMeansSaid := scoreMeans.over
#print axioms scoreMeans_holds
end Go.Proofs.Ytilhhgkplonipab
