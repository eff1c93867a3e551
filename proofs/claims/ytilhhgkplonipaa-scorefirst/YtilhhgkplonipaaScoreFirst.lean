/- The best is a number, none is above it, none ahead is the same; what is no number makes no difference. -/
import Derived.Test.YtilhhgkplonipaaRows
import Derived.Test.YtilhhgkplonipaaFMore
import Derived.BigQuiet
import Derived.WalkKit
import Derived.ProofKit
import Derived.OpenShut
import Derived.ShutString
import Derived.ChangeOld
import Derived.Below
namespace Go.Proofs.Ytilhhgkplonipaa.scoreFirst
open Go.ChangeShapes Go.WideShapes Go.ChangeAt Go.RowKit
open Go.ChangeMaps (open_string shut_string)
set_option linter.unusedVariables false      -- a walk need not use every 'w<i>' (that an integer argument fits its kind)

theorem own : ownKnob Try.prog.godebug = none := by kernel_rfl

theorem laidOut : laidOutB Try.prog = true := by kernel_rfl

set_option maxRecDepth 10000 in
set_option maxHeartbeats 4000000 in
theorem walk (a0 : Option Addr) (n0 c0 : Nat) (z0 : List Nat) (a1 : Int) (w : World) (w0 : FIn w a0 n0 z0 ∧ n0 ≤ c0 ∧ (a0 = none → n0 = 0 ∧ c0 = 0)) (w1 : (Lit.int .i64 a1).wf = true) :
    Calls Try.prog 7 #[.slice a0 n0 c0, .int .i64 a1] w fun e w' => e = .returned (.bool true) ∧ Below w.heap.size w w' := by
  obtain ⟨hin, hnc, hnil⟩ := w0
  have hM : ∃ M : Nat, (if a1 < 0 then 0 else a1) = (M : Int) := by
    by_cases h : a1 < 0
    · exact ⟨0, by rw [if_pos h]; rfl⟩
    · exact ⟨a1.toNat, by rw [if_neg h, Int.toNat_of_nonneg (by omega)]⟩
  obtain ⟨M, hM⟩ := hM
  have H : Hid (FIn w a0 n0 z0 ∧ n0 ≤ c0 ∧ (a0 = none → n0 = 0 ∧ c0 = 0)) := ⟨hin, hnc, hnil⟩
  obtain ⟨q, hq⟩ : ∃ q, q = w.heap.size := ⟨_, rfl⟩
  have HQ : Hid (q = w.heap.size) := hq
  rw [← hq]
  clear hin hnc hnil hq w1
  by_cases h1 : (500 : Int) < n0
  · have d1 : decide ((500 : Int) < n0) = true := decide_eq_true h1
    clear hM
    go_enter Try.func7, Try.ntmps7
    go_wp2_with fail
    refine (known_any w).mono ?_
    rintro e W1 ⟨rfl, b1⟩
    have B1 : Hid (Below q w W1) := by rw [HQ.out]; exact b1
    clear b1
    go_wp2
    go_ret
    exact ⟨rfl, B1.out⟩
  have d1 : decide ((500 : Int) < n0) = false := decide_eq_false h1
  have n1 : n0 ≤ 500 := by omega
  clear h1
  go_enter Try.func7, Try.ntmps7
  go_wp2_with fail
  refine (known_any w).mono ?_
  rintro e W1 ⟨rfl, b1⟩
  have B1 : Hid (Below q w W1 ∧ FIn W1 a0 n0 z0) := ⟨by rw [HQ.out]; exact b1, H.out.1.below b1⟩
  clear b1 d1
  go_wp2_with fail
  refine (best_of a0 n0 c0 z0 W1 B1.out.2 (by omega)).mono ?_
  rintro e W1 ⟨B, rfl, hB, rfl⟩
  have HB : Hid (BestTo z0 n0 B) := hB
  rcases hB with ⟨rfl, hall⟩ | ⟨k, rfl, hk, hkn, hle, hlt⟩
  · have HA : Hid (∀ i, i < n0 → Nan (z0.getD i 0)) := hall
    clear hall hM
    go_wp2
    go_loopw [6] (fun i wr => ∃ (j : Nat), j ≤ n0 ∧ i = .int .i64 j ∧ Drawn W1 wr) (fun i _ => n0 - (intOf i).toNat)
    case atStart => exact ⟨0, by omega, rfl, Drawn.refl W1⟩
    case round =>
      obtain ⟨j, hj, rfl, dr⟩ := hrel
      have HJ : Hid (j ≤ n0 ∧ Drawn W1 wr) := ⟨hj, dr⟩
      clear hj dr
      by_cases hlt : j < n0
      · have hlt' : (j : Int) < n0 := by omega
        obtain ⟨b, off, rfl, hc⟩ := (B1.out.2.drawn HJ.out.2).2.2.2.resolve_left (by omega)
        have cz := hc j hlt
        have o := order_nan_left _ (z0.getD j 0) (HA.out j hlt)
        clear hc
        obtain ⟨z, hz⟩ : ∃ z, z = z0.getD j 0 := ⟨_, rfl⟩
        rw [← hz] at cz o
        have o1 : FloatKind.f64.format.order z z = none := o
        have HZ : Hid (j < n0) := hlt
        clear hz hlt o
        go_wp2
        go_quiet (fail)
        go_wp2
        go_roundw
        case rel => exact ⟨j + 1, by have := HZ.out; omega, by go_num, HJ.out.2.trans ⟨_, rfl⟩⟩
        case measure => have := HZ.out; simp [intOf]; omega
      · have hge : (n0 : Int) ≤ j := by omega
        clear hlt
        go_wp2
        go_ret
        exact ⟨rfl, HJ.out.2.below B1.out.1⟩
  have HK : Hid (k < n0 ∧ ¬ Nan (z0.getD k 0) ∧ (∀ i, i < n0 → ¬ Nan (z0.getD i 0) → key (z0.getD i 0) ≤ key (z0.getD k 0)) ∧ (∀ i, i < k → ¬ Nan (z0.getD i 0) → key (z0.getD i 0) < key (z0.getD k 0))) := ⟨hk, hkn, hle, hlt⟩
  have hkl : (k : Int) < n0 := by omega
  have hk0 : ¬ (k : Int) < 0 := by omega
  obtain ⟨y, hy⟩ : ∃ y, y = z0.getD k 0 := ⟨_, rfl⟩
  have HY : Hid (y = z0.getD k 0) := hy
  clear hk hkn hle hlt hy
  go_wp2
  go_loopw [7] (fun i wr => ∃ (j : Nat), j ≤ n0 ∧ i = .int .i64 j ∧ Drawn W1 wr) (fun i _ => n0 - (intOf i).toNat)
  case atStart => exact ⟨0, by omega, rfl, Drawn.refl W1⟩
  case round =>
    obtain ⟨j, hj, rfl, dr⟩ := hrel
    have HJ : Hid (j ≤ n0 ∧ Drawn W1 wr) := ⟨hj, dr⟩
    clear hj dr
    by_cases hlt : j < n0
    · have hlt' : (j : Int) < n0 := by omega
      obtain ⟨b, off, rfl, hc⟩ := (B1.out.2.drawn HJ.out.2).2.2.2.resolve_left (by omega)
      have cz := hc j hlt
      have ck := hc k HK.out.1
      clear hc
      obtain ⟨z, hz⟩ : ∃ z, z = z0.getD j 0 := ⟨_, rfl⟩
      rw [← hz] at cz
      rw [← HY.out] at ck
      have o1 : (FloatKind.f64.format.order z y == some Ordering.gt) = false := by
        by_cases hn : Nan z
        · rw [fmt64, order_nan_left z y hn]; rfl
        · rw [order_vals z y hn (by rw [HY.out]; exact HK.out.2.1)]
          have := HK.out.2.2.1 j hlt (by rw [← hz]; exact hn)
          rw [← hz, ← HY.out] at this
          rw [if_neg (show ¬ key y < key z by omega)]
          split <;> rfl
      have o2 : j < k → (FloatKind.f64.format.order z y == some Ordering.eq) = false := fun hjk => by
        by_cases hn : Nan z
        · rw [fmt64, order_nan_left z y hn]; rfl
        · rw [order_vals z y hn (by rw [HY.out]; exact HK.out.2.1)]
          have := HK.out.2.2.2 j hjk (by rw [← hz]; exact hn)
          rw [← hz, ← HY.out] at this
          rw [if_pos this]; rfl
      have HZ : Hid (j < n0) := hlt
      clear hz hlt
      by_cases hjk : j < k
      · have o3 := o2 hjk
        have g : decide ((j : Int) < k) = true := decide_eq_true (by omega)
        have g2 : decide (j < k) = true := decide_eq_true hjk
        clear o2 hjk
        go_wp2
        go_quiet (fail)
        go_wp2
        go_roundw
        case rel => exact ⟨j + 1, by have := HZ.out; omega, by go_num, HJ.out.2.trans ⟨_, rfl⟩⟩
        case measure => have := HZ.out; simp [intOf]; omega
      · have g : decide ((j : Int) < k) = false := decide_eq_false (by omega)
        have g2 : decide (j < k) = false := decide_eq_false hjk
        clear o2 hjk
        go_wp2
        go_quiet (fail)
        go_wp2
        go_roundw
        case rel => exact ⟨j + 1, by have := HZ.out; omega, by go_num, HJ.out.2.trans ⟨_, rfl⟩⟩
        case measure => have := HZ.out; simp [intOf]; omega
    · have hge : (n0 : Int) ≤ j := by omega
      clear hlt
      obtain ⟨t, ht⟩ : ∃ t : Nat, (M : Int) % ((n0 : Int) + 1) = t := ⟨((M : Int) % ((n0 : Int) + 1)).toNat, (Int.toNat_of_nonneg (Int.emod_nonneg _ (by omega))).symm⟩
      have htn : t ≤ n0 := by have := Int.emod_lt_of_pos (M : Int) (show (0 : Int) < (n0 : Int) + 1 by omega); omega
      have hsl := fun W => slice_front Try.underlying31 Try.one_f64s a0 n0 c0 t (by have := H.out.2.1; omega) W
      have hsb := fun W => slice_back Try.underlying31 Try.one_f64s a0 n0 c0 t htn W
      have HT : Hid (t ≤ n0 ∧ Below q w wr ∧ FIn wr a0 n0 z0 ∧ q ≤ wr.heap.size) := by
        have hb : Below q w wr := HJ.out.2.below B1.out.1
        refine ⟨htn, hb, B1.out.2.drawn HJ.out.2, ?_⟩
        have := hb.size
        rw [HQ.out]
        exact this
      clear HJ
      obtain ⟨V0, hV0⟩ : ∃ V0, V0 = wr := ⟨_, rfl⟩
      rw [← hV0] at HT ⊢
      clear hV0
      obtain ⟨g, hg⟩ : ∃ g, g = V0.heap.size := ⟨_, rfl⟩
      have HG : Hid (g = V0.heap.size) := hg
      clear hg
      go_upto_region 19 with (at_builtin; refine wpList_append_fin rfl (.tmp 77) (.tmp 80) rfl g none 0 0 [] rfl (World.ownsRow_nil _ _ _ _) a0 t c0 (z0.take t) rfl (HT.out.2.2.1.front t HT.out.1) (fun e => by have := H.out.2.2 e; have := HT.out.1; omega) (by omega) (by rw [HG.out]; exact Nat.le_refl _) ?_; intro A1 C1 V1 ow1 b1; simp only [Nat.zero_add, List.nil_append] at ow1 ⊢)
      have H1 : Hid (V1.ownsRow g 22 1 (.slice A1 t C1) t (fvs (z0.take t)) ∧ Below g V0 V1 ∧ g ≤ V1.heap.size) := ⟨ow1, b1, by have := b1.size; rw [← HG.out] at this; exact this⟩
      clear ow1 b1
      go_wp2_with fail
      refine (ratio_of 0 0 V1).mono ?_
      rintro e V2 ⟨x, rfl, hx, d2⟩
      rw [rat00] at hx
      have H2 : Hid (V2.ownsRow g 22 1 (.slice A1 t C1) t (fvs (z0.take t)) ∧ Below g V0 V2 ∧ g ≤ V2.heap.size ∧ Nan x ∧ x < 2 ^ 64) := ⟨own_drawn H1.out.1 d2, d2.below H1.out.2.1, by obtain ⟨n, rfl⟩ := d2; exact H1.out.2.2, cls_none hx, hx.1⟩
      clear hx d2
      go_upto_region 20 with (at_builtin; refine wpList_append_fin rfl (.tmp 82) (.tmp 84) rfl g A1 t C1 (z0.take t) rfl (H2.out.1.alloc _) (some ⟨V2.heap.size, 0, none⟩) 1 1 [x] rfl (new_fin rfl rfl rfl (by have := H2.out.2.2.2.2; intro z hz; simp at hz; omega) (by decide)) (fun e => by cases e) (by omega) (by have := H2.out.2.2.1; simp; omega) ?_; intro A2 C2 V3 ow3 b3)
      have H3 : Hid (V3.ownsRow g 22 1 (.slice A2 (t + 1) C2) (t + 1) (fvs (z0.take t ++ [x])) ∧ Below g V0 V3 ∧ g ≤ V3.heap.size) := by
        have bb : Below g V0 V3 := (H2.out.2.1.alloc H2.out.2.2.1 _).trans b3
        exact ⟨ow3, bb, by have := bb.size; rw [← HG.out] at this; exact this⟩
      clear ow3 b3
      obtain ⟨A, hA⟩ : ∃ A, A = (if c0 = t then a0 else a0.map (·.add t)) := ⟨_, rfl⟩
      have HA : Hid (FIn V3 A (n0 - t) (z0.drop t) ∧ (A = none → n0 - t = 0 ∧ c0 - t = 0)) := by
        rw [hA]
        refine ⟨?_, back_nil H.out.2.2⟩
        refine FIn.back (HT.out.2.2.1.below ?_) t HT.out.1 H.out.2.1
        rw [← HG.out]
        exact H3.out.2.1
      rw [← hA] at hsb
      clear hA
      obtain ⟨r, hr⟩ : ∃ r, r = n0 - t := ⟨_, rfl⟩
      rw [← hr] at hsb HA
      have HR : Hid (r = n0 - t) := hr
      clear hr
      go_upto_region 21 with (at_builtin; refine wpList_append_fin rfl (.tmp 86) (.tmp 89) rfl g A2 (t + 1) C2 (z0.take t ++ [x]) rfl H3.out.1 A r (c0 - t) (z0.drop t) rfl HA.out.1 HA.out.2 (by have := HR.out; omega) H3.out.2.2 ?_; intro A4 C4 V4 ow4 b4)
      have hfit : ∀ z ∈ z0.take t ++ [x] ++ z0.drop t, z < 2 ^ 64 := by
        intro z hz
        rcases List.mem_append.1 hz with h | h
        · rcases List.mem_append.1 h with h | h
          · exact H.out.1.2.2.1 z (List.mem_of_mem_take h)
          · simp at h; rw [h]; exact H2.out.2.2.2.2
        · exact H.out.1.2.2.1 z (List.mem_of_mem_drop h)
      have H4 : Hid (FIn V4 A4 (t + 1 + r) (z0.take t ++ [x] ++ z0.drop t) ∧ Below g V0 V4) := ⟨own_fin ow4 (by have := HR.out; unfold maxLen; omega) hfit, H3.out.2.1.trans b4⟩
      clear ow4 b4 hfit
      go_wp2_with fail
      refine (best_of A4 (t + 1 + r) C4 (z0.take t ++ [x] ++ z0.drop t) V4 H4.out.1 (by have := HR.out; omega)).mono ?_
      rintro e V4 ⟨m, rfl, hm, rfl⟩
      have hm2 := best_ins (t := t) H.out.1.1 HT.out.1 H2.out.2.2.2.1 HB.out
      have hlen : t + 1 + r = n0 + 1 := by have := HR.out; have := HT.out.1; omega
      rw [hlen] at hm
      have hmv := hm.one hm2
      clear hm hm2 hlen hsl hsb ht
      obtain ⟨b, off, e0, hc⟩ := (HT.out.2.2.1.below (by rw [← HG.out]; exact H4.out.2)).2.2.2.resolve_left (by have := HK.out.1; omega)
      have ck := hc k HK.out.1
      rw [← HY.out] at ck
      clear hc
      subst e0
      have o1 : FloatKind.f64.format.order y y = some .eq := order_self y (by rw [HY.out]; exact HK.out.2.1)
      have HF : Hid (Below q w V4) := by
        have h1 := HT.out.2.1
        have h2 := H4.out.2
        refine h1.trans (h2.mono ?_)
        rw [HG.out]
        exact HT.out.2.2.2
      by_cases hkt : k < t
      · rw [if_pos hkt] at hmv
        subst hmv
        have g1 : decide ((k : Int) < t) = true := decide_eq_true (by omega)
        have g2 : decide (k < t) = true := decide_eq_true hkt
        have g3 : ((k : Int) == (k : Int)) = true := by simp
        clear hkt
        go_wp2
        go_quiet (fail)
        go_wp2
        go_ret
        exact ⟨rfl, below_drewN HF.out _⟩
      · rw [if_neg hkt] at hmv
        subst hmv
        have g1 : decide ((k : Int) < t) = false := decide_eq_false (by omega)
        have g2 : decide (k < t) = false := decide_eq_false hkt
        have g3 : ((k : Int) + 1 == (k : Int)) = false := by rw [beq_eq_false_iff_ne]; omega
        have g6 : IntKind.i64.wrap ((k : Int) + 1) = (k : Int) + 1 := by rw [IntKind.wrap_i64]; omega
        have g7 : ((k : Int) + 1 == (k : Int) + 1) = true := by simp
        have g4 : decide ((t : Int) ≤ k) = true := decide_eq_true (by omega)
        have g5 : decide (t ≤ k) = true := decide_eq_true (by omega)
        clear hkt
        go_wp2
        go_quiet (fail)
        go_wp2
        go_ret
        exact ⟨rfl, below_drewN HF.out _⟩

set_option maxRecDepth 100000 in
theorem lifted (os : Os) (started : os.Started) (H : Type) (enc : TypeId × Value → H) :
    ReturnsInHanded {} Try.checked os 7 .any (Rows.scoreFirstSpec.pre6 enc Try.prog Try.f7 Rows.scoreFirstRow.domain false) (Rows.scoreFirstSpec.post enc Try.prog Try.f7 false true false false) := by
  refine returnsInHanded_of_change (C := Try.checked) own started (by kernel_rfl) Try.func7
    (ChangeSpec.witness6 (enc := enc) (C := Try.checked) false ⟨#[], #[.slice none 0 0, .int .i64 0], []⟩ 8 (by kernel_rfl) (by kernel_rfl) (by kernel_rfl) (by kernel_rfl)) ?_
  intro W base args ds gs before hval0 hW hcnd _
  have hval : ∀ (j : Nat) t v, Try.f7.params[j]? = some t → args[j]? = some v → Value.okWide Try.prog W .any base t v := hval0
  have hW' := hW
  obtain ⟨p, q, hA0, hV, rfl, hfz, hnd⟩ := hW
  have hA : DataW.TrodAll enc Try.prog W 0 (fun _ => true) true Try.f7.params.toList args.toList ds p := hA0
  rw [Try.params7] at hA hval
  obtain ⟨v0, vs0, d0, ds0, p0, q0, hargs, rfl, rfl, h0, r0⟩ := trodAll_cons hA
  obtain ⟨v1, vs1, d1, ds1, p1, q1, rfl, rfl, rfl, h1, r1⟩ := trodAll_cons r0
  obtain ⟨rfl, rfl, rfl⟩ := trodAll_nil r1
  obtain rfl : args = #[v0, v1] := by cases args; simp_all
  obtain ⟨rfl, rfl⟩ := trodVars_none hV
  obtain ⟨a0, n0, c0, rfl⟩ := okWide_slice Try.underlying31 (hval 0 31 v0 rfl rfl)
  have k0 := h0
  have lt0 : ∀ x ∈ p0, x.block < W.heap.size := by obtain ⟨m, hm⟩ := k0; exact DataW.trod_lt m _ _ _ hm
  obtain ⟨z0, w0⟩ := open_f64s h0
  obtain ⟨a1, rfl, rfl, rfl, w1⟩ := open_int Try.underlying3 (hval 1 3 v1 rfl rfl) h1
  clear hA0 hval0
  refine (walk a0 n0 c0 z0 a1 W w0 w1).mono fun e W' ⟨he, bel⟩ => ?_
  subst he
  exact ⟨_, rfl, _, _, _, [], _, [], hW', trodAll_mk1 (shut_bool Try.underlying4 _), (trodAll_cons_mk (Below.trod laidOut (by kernel_rfl) (of_decide_eq_true (by kernel_rfl)) k0 bel lt0) (trodAll_cons_mk (shut_int Try.underlying3 w1) trodAll_mk0)), rfl, bel.frame _, fun h => by cases h⟩

theorem over : Rows.scoreFirstRow.holds Try.pinned (OpenSpec.ofChange Rows.scoreFirstSpec) :=
  OpenClaim.holds_of_wide 7 Try.f7 rfl rfl rfl rfl rfl rfl rfl ⟨rfl, rfl, rfl, rfl, rfl⟩ rfl rfl rfl rfl rfl (by kernel_rfl) Try.func7 (by kernel_rfl)
    (of_decide_eq_true (by kernel_rfl)) (by unfold Func.isWrapper; first | (rw [if_pos (by decide +kernel)]; kernel_rfl) | (rw [if_neg (by decide +kernel)]; exact ⟨rfl, rfl⟩))
    (fun os started H enc _ => lifted os started H enc)

end Go.Proofs.Ytilhhgkplonipaa.scoreFirst
namespace Go.Proofs.Ytilhhgkplonipaa
/-- The statement. -/
theorem scoreFirst_holds : Rows.ScoreFirstSaid := scoreFirst.over
#print axioms scoreFirst_holds
end Go.Proofs.Ytilhhgkplonipaa
