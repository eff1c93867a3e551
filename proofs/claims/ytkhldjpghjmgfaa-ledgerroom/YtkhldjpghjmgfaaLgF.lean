/- Fits: the program's. -/
import Derived.Test.YtkhldjpghjmgfaaLgFm
import Derived.Test.YtkhldjpghjmgfaaSRight
import Derived.Deep.RegionHeld3
namespace Go.Proofs.Ytkhldjpghjmgfaa
open Go.RowKit
set_option linter.unusedVariables false
set_option maxRecDepth 4000

theorem kroom_pow (b : Int) (h : b ∈ Powers) (w : World) : Calls Try.prog 37 #[.int .i64 b] w fun e w' => e = .returned (.int .i64 ((b - 27) / 16)) ∧ w' = w := by
  simp only [Powers, List.mem_cons, List.not_mem_nil, or_false] at h
  rcases h with rfl | rfl | rfl | rfl | rfl | rfl | rfl
  all_goals (
    go_enter Try.func37, Try.ntmps37
    go_wp2
    go_ret
    exact ⟨rfl, rfl⟩)
theorem lroom_of (s : Sh) (h : RightS s) (w : World) : Calls Try.prog 27 #[.agg #[.int .i64 s.z, .int .i64 s.zb, .int .i64 s.b, .int .i64 s.r]] w fun e w' => e = .returned (.int .u64 (capS s)) ∧ Below w.heap.size w w' := by
  have c1 := kroom_pow s.b h.2.2.2.2.1
  have e1 := log_bounds h
  have e2 := chk_bounds h
  have e3 := cap_bounds h
  have hb := power_bounds h.2.2.2.2.1
  obtain ⟨h1, h2, h3, h4, h5, h6, h7⟩ := h
  have w1 : IntKind.i64.wrap ((s.z - 3 - s.r) * (s.zb / 4)) = logS s := by rw [IntKind.wrap_i64]; unfold logS at e1 ⊢; omega
  have w2 : IntKind.i64.wrap (s.zb * ((s.b - 27) / 16)) = chkS s := by rw [IntKind.wrap_i64]; unfold chkS at e2 ⊢; omega
  have HB : Hid (Below w.heap.size w (w.alloc (.cells #[.int .i64 s.z, .int .i64 s.zb, .int .i64 s.b, .int .i64 s.r] 23))) := (Below.refl _ _).alloc (Nat.le_refl _) _
  have HC : Hid (capS s = min (logS s) (chkS s)) := rfl
  obtain ⟨z, zb, b, r⟩ := s
  simp only at *
  go_enter Try.func27, Try.ntmps27
  go_wp2_with fail
  have hk : Blk (w.alloc (.cells #[.int .i64 z, .int .i64 zb, .int .i64 b, .int .i64 r] 23)) w.heap.size [.int .i64 z, .int .i64 zb, .int .i64 b, .int .i64 r] 23 := Blk.new' rfl rfl
  generalize w.alloc (.cells #[.int .i64 z, .int .i64 zb, .int .i64 b, .int .i64 r] 23) = V at HB hk ⊢
  have zS : V.cell? ⟨w.heap.size, 1, none⟩ = some (.int .i64 zb) ∧ V.cell? ⟨w.heap.size, 2, none⟩ = some (.int .i64 b) := ⟨hk.cell 1, hk.cell 2⟩
  clear hk
  go_region_held3 (fun X => X.cell? ⟨w.heap.size, 1, none⟩ = some (.int .i64 zb) ∧ X.cell? ⟨w.heap.size, 2, none⟩ = some (.int .i64 b)) (exact zS)
    ((go_simp; go_at_call 37; refine (c1 _).mono ?_; rintro e w11 ⟨rfl, hw11⟩; replace hw11 := hw11.symm; subst hw11))
  all_goals go_wp2
  all_goals go_ret
  all_goals refine ⟨?_, HB.out.trans (drewN_below _ V 1)⟩
  · rw [show capS ⟨z, zb, b, r⟩ = chkS ⟨z, zb, b, r⟩ by rw [HC.out]; omega]; rfl
  · rw [show capS ⟨z, zb, b, r⟩ = logS ⟨z, zb, b, r⟩ by rw [HC.out]; omega]; rfl
theorem lFits_of (s : Sh) (hz : -9223372036854775808 ≤ s.z) (a : Option Addr) (n c : Nat) (ts : List Tn) (w : World) (h : TsL w a n ts) (hn : n ≤ 1000) :
    Calls Try.prog 10 #[.agg #[.int .i64 s.z, .int .i64 s.zb, .int .i64 s.b, .int .i64 s.r], .slice a n c] w fun e w' => e = .returned (.bool (decide (FitT s ts))) ∧ Below w.heap.size w w' := by
  have cR : ∀ V, Calls Try.prog 25 #[.agg #[.int .i64 s.z, .int .i64 s.zb, .int .i64 s.b, .int .i64 s.r]] V fun e w' => e = .returned (.bool (decide (RightS s))) ∧ Below V.heap.size V w' := fun V => right_of s V hz
  by_cases hr : RightS s
  · simp only [decide_eq_true hr] at cR
    by_cases h64 : (64 : Int) < n
    · have HE : Hid (decide (FitT s ts) = false) := decide_eq_false (fun hh => by have := hh.2.1; rw [h.1] at this; omega)
      clear h
      go_enter Try.func10, Try.ntmps10
      go_wp2_with (go_at_call 25; refine (cR _).mono ?_; rintro e v1 ⟨rfl, B0⟩; have B1 := ((Below.refl _ w).alloc (Nat.le_refl _) _).trans (B0.mono (by simp)))
      go_ret
      exact ⟨by rw [HE.out]; rfl, B1⟩
    · have h64' : (n : Int) ≤ 64 := by omega
      have H : Hid (TsL w a n ts) := h
      have cQ : ∀ V, Below w.heap.size w V → Calls Try.prog 26 #[.slice a n c] V fun e w' => e = .returned (.map (some V.heap.size)) ∧ QMap w' V.heap.size n (quoS ts) ∧ Below V.heap.size V w' := fun V hV => quotas_of a n c ts V (h.below hV) hn
      by_cases hd : (quoS ts).length < ts.length
      · have HE : Hid (decide (FitT s ts) = false) := decide_eq_false (fun hh => (quo_nodup ts).2 hh.2.2.1 hd)
        have hd' : ((quoS ts).length : Int) < n := by rw [← h.1]; omega
        clear h hd
        go_enter Try.func10, Try.ntmps10
        go_wp2_with (first | (go_at_call 25; refine (cR _).mono ?_; rintro e v1 ⟨rfl, B0⟩; have B1 := ((Below.refl _ w).alloc (Nat.le_refl _) _).trans (B0.mono (by simp))) | (go_at_call 26; refine (cQ _ B1).mono ?_; rintro e v2 ⟨rfl, hQ, B2⟩; have ql := hQ.len 3))
        go_ret
        exact ⟨by rw [HE.out]; rfl, B1.trans (B2.mono B1.size)⟩
      · have hd' : ¬ (((quoS ts).length : Int) < n) := by rw [← h.1]; omega
        have HD : Hid ((idsT ts).Nodup ∧ RightS s) := ⟨(quo_nodup ts).1 hd, hr⟩
        have cM := lroom_of s hr
        have hcap := cap_bounds hr
        clear h hd hr
        go_enter Try.func10, Try.ntmps10
        go_wp2_with (first | (go_at_call 25; refine (cR _).mono ?_; rintro e v1 ⟨rfl, B0⟩; have B1 := ((Below.refl _ w).alloc (Nat.le_refl _) _).trans (B0.mono (by simp)); have K1 : Blk v1 w.heap.size [.int .i64 s.z, .int .i64 s.zb, .int .i64 s.b, .int .i64 s.r] 23 := (Blk.new' rfl rfl).below B0 (by simp)) | (go_at_call 26; refine (cQ _ B1).mono ?_; rintro e v2 ⟨rfl, hQ, B2⟩; have ql := hQ.len 3; have K2 := K1.below B2 K1.lt; have s0 : v2.cell? ⟨w.heap.size, 0, none⟩ = some (.int .i64 s.z) := K2.cell 0; have s1 : v2.cell? ⟨w.heap.size, 1, none⟩ = some (.int .i64 s.zb) := K2.cell 1; have s2 : v2.cell? ⟨w.heap.size, 2, none⟩ = some (.int .i64 s.b) := K2.cell 2; have s3 : v2.cell? ⟨w.heap.size, 3, none⟩ = some (.int .i64 s.r) := K2.cell 3) | (go_at_call 27; refine (cM _).mono ?_; rintro e v3 ⟨rfl, B3⟩))
        have HB : Hid (Below w.heap.size w v3) := (B1.trans (B2.mono B1.size)).trans (B3.mono (B1.trans (B2.mono B1.size)).size)
        clear B0 B1 B2 B3 hQ ql cR cQ cM K1 K2 s0 s1 s2 s3
        generalize hcs : capS s = M at hcap
        have HM : Hid (capS s = M) := hcs
        clear hcs
        go_loopw [5, 28] (fun l i wr => ∃ k : Nat, k ≤ n ∧ i = .int .i64 k ∧ l = .int .u64 (M - sumQ (ts.take k)) ∧ sumQ (ts.take k) ≤ M ∧ Below w.heap.size w wr) (fun _ i _ => n - (intOf i).toNat)
        case atStart => exact ⟨0, by omega, rfl, by simp [sumQ], by simpa [sumQ] using hcap.1, HB.out⟩
        case round =>
          obtain ⟨k, hk, rfl, rfl, hsM, hbel⟩ := hrel
          have hs0 : 0 ≤ sumQ (ts.take k) := sumQ_pos (fun t ht => H.out.2.1 t (List.mem_of_mem_take ht))
          by_cases hlt : k < n
          · have hlt' : (k : Int) < n := by omega
            obtain ⟨b, off, ha, hrow⟩ := H.out.2.2.resolve_left (by omega)
            subst ha
            obtain ⟨t, ht⟩ : ∃ t, ts[k]? = some t := ⟨_, List.getElem?_eq_getElem (by rw [H.out.1]; exact hlt)⟩
            have hR := hrow k t ht
            have hR' : wr.rangeAt b (off + k * 5) (tC t) := rangeAt_same hR (hbel.block b (rangeAt_lt hR))
            have hq := (H.out.2.1 t (List.mem_of_getElem? ht)).2.1
            have hnx := sumQ_next ht
            have htk := sumQ_take (k := k + 1) H.out.2.1
            have HT : Hid (sumQ (ts.take (k + 1)) = sumQ (ts.take k) + t.quota ∧ sumQ (ts.take (k + 1)) ≤ sumQ ts ∧ Below w.heap.size w wr) := ⟨hnx, htk, hbel⟩
            unfold FitsQ at hq
            clear ht hR hrow hnx htk hbel
            generalize sumQ (ts.take k) = S at hsM hs0 HT ⊢
            go_upto_region 7 with (first
              | (refine wpList_load_mid rfl 48 (.tmp 30) rfl b (off + k * 5) rfl _ _ hR' Try.underlying48 rfl Try.info_tn ?_)
              | (refine wpList_store_mid rfl 48 (.tmp 7) (.tmp 31) rfl wr.heap.size 0 (tC t).toArray rfl rfl ?hT (tn_size t) (tn_all t) ?_; (case hT => exact tn_there _)))
            obtain ⟨g, hg⟩ : ∃ g, g = wr.heap.size := ⟨_, rfl⟩
            rw [← hg]
            generalize hU : World.setCells _ _ _ _ = U
            have pu : Blk U g (tC t) 48 ∧ Below g wr U := by
              rw [← hU]
              exact ⟨(Blk.new' (L := tn0) hg.symm rfl).setAll (by rfl), below_setCells (Nat.le_refl _) _ _ _ ((Below.refl _ _).alloc (by omega) _)⟩
            have c2 : U.cell? ⟨g, 2, none⟩ = some (.int .u64 t.quota) := pu.1.cell 2
            have HU : Hid (Below w.heap.size w U) := HT.out.2.2.trans (pu.2.mono (by rw [hg]; exact HT.out.2.2.size))
            clear pu hU hg hR'
            by_cases hx : M - S < t.quota
            · have HE : Hid (decide (FitT s ts) = false) := decide_eq_false (fun hh => by have := hh.2.2.2; rw [HM.out] at this; have := HT.out.1; have := HT.out.2.1; omega)
              go_wp2
              go_ret
              exact ⟨by rw [HE.out]; rfl, HU.out⟩
            · go_wp2
              go_roundw
              case rel => exact ⟨k + 1, by omega, by go_num, by rw [HT.out.1]; go_num, by rw [HT.out.1]; omega, HU.out⟩
              case measure => simp [intOf]; omega
          · have hlt' : ¬ ((k : Int) < n) := by omega
            have hkn : k = n := by omega
            subst hkn
            have HE : Hid (decide (FitT s ts) = true) := decide_eq_true (by
              refine ⟨HD.out.2, by rw [H.out.1]; omega, HD.out.1, ?_⟩
              rw [List.take_of_length_le (by rw [H.out.1]; exact Nat.le_refl _)] at hsM
              rw [HM.out]; exact hsM)
            go_wp2
            go_ret
            exact ⟨by rw [HE.out]; rfl, hbel⟩
  · simp only [decide_eq_false hr] at cR
    have HE : Hid (decide (FitT s ts) = false) := decide_eq_false (fun hh => hr hh.1)
    clear h
    go_enter Try.func10, Try.ntmps10
    go_wp2_with (go_at_call 25; refine (cR _).mono ?_; rintro e v1 ⟨rfl, B0⟩; have B1 := ((Below.refl _ w).alloc (Nat.le_refl _) _).trans (B0.mono (by simp)))
    go_ret
    exact ⟨by rw [HE.out]; rfl, B1⟩
end Go.Proofs.Ytkhldjpghjmgfaa
