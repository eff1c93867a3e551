/- Fits: the document's. -/
import Derived.Test.YtkhldjpghjmgfaaLgFm
import Derived.Test.YtkhldjpghjmgfaaSRRight
import Derived.Deep.RegionHeld3
namespace Go.Proofs.Ytkhldjpghjmgfaa
open Go.RowKit
set_option linter.unusedVariables false
set_option maxRecDepth 4000

theorem pow_next {P b : Int} (hP : P ∈ Powers) (hb : b ∈ Powers) (h : P ≤ b) (hne : P ≠ b) : 2 * P ∈ Powers ∧ 2 * P ≤ b := by
  simp only [Powers, List.mem_cons, List.not_mem_nil, or_false] at hP hb ⊢
  rcases hP with rfl | rfl | rfl | rfl | rfl | rfl | rfl <;> rcases hb with rfl | rfl | rfl | rfl | rfl | rfl | rfl <;> simp_all
theorem dkRoom_pow (b : Int) (h : b ∈ Powers) (w : World) : Calls Try.prog 29 #[.int .i64 b] w fun e w' => e = .returned (.int .i64 ((b - 27) / 16)) ∧ w' = w := by
  have hb := power_bounds h
  have HB : Hid (b ∈ Powers) := h
  clear h
  go_enter Try.func29, Try.ntmps29
  go_wp2
  go_loopw [3] (fun x wr => ∃ P : Int, x = .int .i64 P ∧ P ∈ Powers ∧ P ≤ b ∧ wr = w) (fun x _ => (4097 - intOf x).toNat)
  case atStart => exact ⟨64, rfl, by simp [Powers], by omega, rfl⟩
  case round =>
    obtain ⟨P, rfl, hP, hPb, rfl⟩ := hrel
    have hp := power_bounds hP
    by_cases he : P = b
    · subst he
      clear hP HB
      go_wp2
      go_ret
      exact ⟨rfl, rfl⟩
    · have HN : Hid (2 * P ∈ Powers ∧ 2 * P ≤ b) := pow_next hP HB.out hPb he
      have h2 := HN.out.2
      clear hP
      go_wp2
      go_roundw
      case rel => exact ⟨2 * P, by go_num, HN.out.1, HN.out.2, trivial⟩
      case measure => simp [intOf]; omega
set_option maxHeartbeats 2000000 in
theorem dlFits_of (s : Sh) (hz : -9223372036854775808 ≤ s.z) (a : Option Addr) (n c : Nat) (ts : List Tn) (w : World) (h : TsL w a n ts) (hn : n ≤ 1000) :
    Calls Try.prog 11 #[.agg #[.int .i64 s.z, .int .i64 s.zb, .int .i64 s.b, .int .i64 s.r], .slice a n c] w fun e w' => e = .returned (.bool (decide (FitT s ts))) ∧ Below w.heap.size w w' := by
  have cR : ∀ V, Calls Try.prog 28 #[.agg #[.int .i64 s.z, .int .i64 s.zb, .int .i64 s.b, .int .i64 s.r]] V fun e w' => e = .returned (.bool (decide (RightS s))) ∧ Below V.heap.size V w' := fun V => rRight_of s V hz
  by_cases hr : RightS s
  · simp only [decide_eq_true hr] at cR
    by_cases h64 : (64 : Int) < n
    · have HE : Hid (decide (FitT s ts) = false) := decide_eq_false (fun hh => by have := hh.2.1; rw [h.1] at this; omega)
      clear h
      go_enter Try.func11, Try.ntmps11
      go_wp2_with (go_at_call 28; refine (cR _).mono ?_; rintro e v1 ⟨rfl, B0⟩; have B1 := ((Below.refl _ w).alloc (Nat.le_refl _) _).trans (B0.mono (by simp)))
      go_ret
      exact ⟨by rw [HE.out]; rfl, B1⟩
    · have h64' : (n : Int) ≤ 64 := by omega
      have H : Hid (TsL w a n ts ∧ RightS s) := ⟨h, hr⟩
      have cM := dkRoom_pow s.b hr.2.2.2.2.1
      have e1 := log_bounds hr
      have e2 := chk_bounds hr
      have hb := power_bounds hr.2.2.2.2.1
      have w1 : IntKind.i64.wrap ((s.z - 3 - s.r) * (s.zb / 4)) = logS s := by rw [IntKind.wrap_i64]; unfold logS at e1 ⊢; omega
      have w2 : IntKind.i64.wrap (s.zb * ((s.b - 27) / 16)) = chkS s := by rw [IntKind.wrap_i64]; unfold chkS at e2 ⊢; omega
      obtain ⟨h1, h2, h3, h4, h5, h6, h7⟩ := hr
      clear h h5
      go_enter Try.func11, Try.ntmps11
      go_wp2_with (go_at_call 28; refine (cR _).mono ?_; rintro e v1 ⟨rfl, B0⟩; have B1 := ((Below.refl _ w).alloc (Nat.le_refl _) _).trans (B0.mono (by simp)); have K1 : Blk v1 w.heap.size [.int .i64 s.z, .int .i64 s.zb, .int .i64 s.b, .int .i64 s.r] 23 := (Blk.new' rfl rfl).below B0 (by simp); have s0 : v1.cell? ⟨w.heap.size, 0, none⟩ = some (.int .i64 s.z) := K1.cell 0; have s1 : v1.cell? ⟨w.heap.size, 1, none⟩ = some (.int .i64 s.zb) := K1.cell 1; have s2 : v1.cell? ⟨w.heap.size, 2, none⟩ = some (.int .i64 s.b) := K1.cell 2; have s3 : v1.cell? ⟨w.heap.size, 3, none⟩ = some (.int .i64 s.r) := K1.cell 3)
      have zS : v1.cell? ⟨w.heap.size, 1, none⟩ = some (.int .i64 s.zb) ∧ v1.cell? ⟨w.heap.size, 2, none⟩ = some (.int .i64 s.b) := ⟨s1, s2⟩
      have HB : Hid (Below w.heap.size w v1) := B1
      clear B0 B1 K1 s0 s1 s2 s3 cR
      go_region_held3 (fun X => X.cell? ⟨w.heap.size, 1, none⟩ = some (.int .i64 s.zb) ∧ X.cell? ⟨w.heap.size, 2, none⟩ = some (.int .i64 s.b)) (exact zS)
        ((go_simp; go_at_call 29; refine (cM _).mono ?_; rintro e w11 ⟨rfl, hw11⟩; replace hw11 := hw11.symm; subst hw11))
      have HC : Hid (capS s = min (logS s) (chkS s)) := rfl
      generalize hL : logS s = L at e1 HC
      generalize hK : chkS s = K at e2 HC
      go_wp2
      clear zS cM w1 w2 h1 h2 h3 h4 h6 h7 hb
      go_loopw [8, 9] (fun sm i wr => ∃ k : Nat, k ≤ n ∧ i = .int .i64 k ∧ sm = .int .u64 (sumQ (ts.take k)) ∧ sumQ (ts.take k) ≤ L ∧ (idsT (ts.take k)).Nodup ∧ Below w.heap.size w wr) (fun _ i _ => n - (intOf i).toNat)
      case atStart => exact ⟨0, by omega, rfl, by simp [sumQ], by simpa [sumQ] using e1.1, by simp [idsT], HB.out.trans (drewN_below _ v1 1)⟩
      case round =>
        obtain ⟨k, hk, rfl, rfl, hsM, hnd, hbel⟩ := hrel
        obtain ⟨V0, rfl⟩ : ∃ V0, V0 = wr := ⟨_, rfl⟩
        have hs0 : 0 ≤ sumQ (ts.take k) := sumQ_pos (fun t ht => H.out.1.2.1 t (List.mem_of_mem_take ht))
        by_cases hlt : k < n
        · have hlt' : (k : Int) < n := by omega
          obtain ⟨b, off, ha, hrow⟩ := H.out.1.2.2.resolve_left (by omega)
          subst ha
          obtain ⟨t, ht⟩ : ∃ t, ts[k]? = some t := ⟨_, List.getElem?_eq_getElem (by rw [H.out.1.1]; exact hlt)⟩
          have hq := (H.out.1.2.1 t (List.mem_of_getElem? ht)).2.1
          have hnx := sumQ_next ht
          have htk := sumQ_take (k := k + 1) H.out.1.2.1
          have HT : Hid (sumQ (ts.take (k + 1)) = sumQ (ts.take k) + t.quota ∧ sumQ (ts.take (k + 1)) ≤ sumQ ts ∧ ts[k]? = some t ∧ (idsT (ts.take k)).Nodup) := ⟨hnx, htk, ht, hnd⟩
          have HR : Hid (∀ V, Below w.heap.size w V → ∀ j x, ts[j]? = some x → V.cell? ⟨b, off + j * 5, none⟩ = some (.int .u32 x.id) ∧ V.cell? ⟨b, off + j * 5 + 2, none⟩ = some (.int .u64 x.quota)) := fun V hV j x hx => by
            have hr := rangeAt_same (hrow j x hx) (hV.block b (rangeAt_lt (hrow j x hx)))
            exact ⟨hr 0 _ rfl, hr 2 _ rfl⟩
          unfold FitsQ at hq
          clear ht hrow hnx htk hnd
          generalize sumQ (ts.take k) = S at hsM hs0 HT ⊢
          go_wp2
          go_loopw [10] (fun i wx => ∃ j : Nat, j ≤ k ∧ i = .int .i64 j ∧ (∀ l x, l < j → ts[l]? = some x → x.id ≠ t.id) ∧ Below w.heap.size w wx) (fun i _ => k - (intOf i).toNat)
          case atStart => exact ⟨0, by omega, rfl, (fun l x hl => by omega), hbel⟩
          case round =>
            obtain ⟨j, hj, rfl, hdf, hbx⟩ := hrel
            obtain ⟨c0, c2⟩ := HR.out wr hbx k t HT.out.2.2.1
            by_cases hjk : j < k
            · have hjk' : (j : Int) < k := by omega
              have hjn : (j : Int) < n := by omega
              obtain ⟨x, hx⟩ : ∃ x, ts[j]? = some x := ⟨_, List.getElem?_eq_getElem (by rw [H.out.1.1]; omega)⟩
              obtain ⟨d0, d2⟩ := HR.out wr hbx j x hx
              have c0' : wr.drew.cell? ⟨b, off + k * 5, none⟩ = some (.int .u32 t.id) := c0
              have d0' : wr.drew.cell? ⟨b, off + j * 5, none⟩ = some (.int .u32 x.id) := d0
              by_cases he : x.id = t.id
              · have HE : Hid (decide (FitT s ts) = false ∧ Below w.heap.size w wr.drew) := ⟨decide_eq_false (fun hh => by
                  have hp : (ts.map (·.id)).Pairwise (· ≠ ·) := hh.2.2.1
                  obtain ⟨q1, q2⟩ := List.getElem?_eq_some_iff.1 hx
                  obtain ⟨q3, q4⟩ := List.getElem?_eq_some_iff.1 HT.out.2.2.1
                  refine List.pairwise_iff_getElem.1 hp j k (by rw [List.length_map]; exact q1) (by rw [List.length_map]; exact q3) hjk ?_
                  rw [List.getElem_map, List.getElem_map, q2, q4]
                  exact he), hbx.trans (drewN_below _ wr 1)⟩
                clear hdf hbx hx
                go_wp2
                go_region
                all_goals go_wp2
                all_goals go_ret
                all_goals exact ⟨by rw [HE.out.1]; rfl, HE.out.2⟩
              · have HE : Hid ((∀ l y, l < j + 1 → ts[l]? = some y → y.id ≠ t.id) ∧ Below w.heap.size w wr.drew) := ⟨fun l y hl hy => by
                  rcases Nat.lt_or_ge l j with h | h
                  · exact hdf l y h hy
                  · have : l = j := by omega
                    subst this
                    rw [hx] at hy; cases hy; exact he, hbx.trans (drewN_below _ wr 1)⟩
                clear hdf hbx hx
                go_wp2
                go_region
                all_goals go_wp2
                all_goals (
                  go_roundw
                  case rel => exact ⟨j + 1, by omega, by go_num, HE.out.1, HE.out.2⟩
                  case measure => simp [intOf]; omega)
            · have hjk' : ¬ ((j : Int) < k) := by omega
              have HN : Hid ((idsT (ts.take (k + 1))).Nodup ∧ Below w.heap.size w wr) := by
                refine ⟨?_, hbx⟩
                rw [List.take_add_one, HT.out.2.2.1]
                unfold idsT
                rw [List.map_append, List.nodup_append]
                refine ⟨HT.out.2.2.2, by simp, fun a ha c hc => ?_⟩
                have : c = t.id := by simpa using hc
                subst this
                obtain ⟨x, hx, rfl⟩ := List.mem_map.1 ha
                obtain ⟨l, hl⟩ := List.getElem?_of_mem hx
                rw [List.getElem?_take] at hl
                split at hl
                · rename_i hlk; exact hdf l x (by omega) hl
                · cases hl
              clear hdf hbx
              by_cases hx : L - S < t.quota
              · have HE : Hid (decide (FitT s ts) = false) := decide_eq_false (fun hh => by have := hh.2.2.2; rw [HC.out] at this; have := HT.out.1; have := HT.out.2.1; omega)
                go_wp2
                go_ret
                exact ⟨by rw [HE.out]; rfl, HN.out.2⟩
              · go_wp2
                go_roundw
                case rel => exact ⟨k + 1, by omega, by go_num, by rw [HT.out.1], by rw [HT.out.1]; omega, HN.out.1, HN.out.2⟩
                case measure => simp [intOf]; omega
        · have hlt' : ¬ ((k : Int) < n) := by omega
          have hkn : k = n := by omega
          subst hkn
          rw [List.take_of_length_le (by rw [H.out.1.1]; exact Nat.le_refl _)] at hsM hs0 hnd ⊢
          have HE : Hid (decide (FitT s ts) = decide (sumQ ts ≤ K)) := by
            have : FitT s ts ↔ sumQ ts ≤ K := ⟨fun hh => by have := hh.2.2.2; rw [HC.out] at this; omega, fun hh => ⟨H.out.2, by rw [H.out.1.1]; omega, hnd, by rw [HC.out]; omega⟩⟩
            exact decide_eq_decide.2 this
          generalize sumQ ts = S at hsM hs0 HE ⊢
          by_cases hx : S ≤ K
          · rw [decide_eq_true hx] at HE
            go_wp2
            go_ret
            exact ⟨by rw [HE.out]; rfl, hbel⟩
          · rw [decide_eq_false hx] at HE
            go_wp2
            go_ret
            exact ⟨by rw [HE.out]; rfl, hbel⟩
  · simp only [decide_eq_false hr] at cR
    have HE : Hid (decide (FitT s ts) = false) := decide_eq_false (fun hh => hr hh.1)
    clear h
    go_enter Try.func11, Try.ntmps11
    go_wp2_with (go_at_call 28; refine (cR _).mono ?_; rintro e v1 ⟨rfl, B0⟩; have B1 := ((Below.refl _ w).alloc (Nat.le_refl _) _).trans (B0.mono (by simp)))
    go_ret
    exact ⟨by rw [HE.out]; rfl, B1⟩
end Go.Proofs.Ytkhldjpghjmgfaa
