/- What one call of the document's own Width, Pack and Take does. -/
import Derived.Test.YtggeadjebkhomaaWKnown
namespace Go.Proofs.Ytggeadjebkhomaa
open Go.RowKit
set_option linter.unusedVariables false
set_option maxRecDepth 4000

theorem width_of (x : Int) (w : World) : Calls Try.prog 36 #[.int .i64 x] w fun e w' => e = .returned (.int .i64 (wd x : Nat)) ∧ w' = w := by
  by_cases h1 : x = 1
  · subst h1
    go_enter Try.func36, Try.ntmps36
    go_wp2
    go_ret
    exact ⟨rfl, rfl⟩
  by_cases h2 : x = 2
  · subst h2
    go_enter Try.func36, Try.ntmps36
    go_wp2
    go_ret
    exact ⟨rfl, rfl⟩
  by_cases h4 : x = 4
  · subst h4
    go_enter Try.func36, Try.ntmps36
    go_wp2
    go_ret
    exact ⟨rfl, rfl⟩
  have hw : wd x = 8 := by unfold wd; rw [if_neg h1, if_neg h2, if_neg h4]
  rw [hw]
  have b1 : (x == 1) = false := by simp [h1]
  have b2 : (x == 2) = false := by simp [h2]
  have b4 : (x == 4) = false := by simp [h4]
  go_enter Try.func36, Try.ntmps36
  go_wp2
  go_ret
  exact ⟨rfl, rfl⟩

set_option maxHeartbeats 2000000 in
theorem refPack_of (a : Option Addr) (n c : Nat) (ws : List Int) (b : Option Addr) (m d : Nat) (vs : List Int) (w : World) (hx : NIn .i64 w a n ws) (hy : NIn .u64 w b m vs) (hn : n ≤ 100000) (hm : m ≤ 100000) :
    Calls Try.prog 25 #[.slice a n c, .slice b m d] w fun e w' => ∃ a' k' c', e = .returned (.slice a' k' c') ∧ k' = (packL ws vs).length ∧ w'.ownsRow w.heap.size 5 1 (.slice a' k' c') k' (u8s (packL ws vs)) ∧ Below w.heap.size w w' := by
  obtain ⟨q, hq⟩ : ∃ q, q = w.heap.size := ⟨_, rfl⟩
  have H : Hid (NIn .i64 w a n ws ∧ NIn .u64 w b m vs ∧ q = w.heap.size) := ⟨hx, hy, hq⟩
  rw [← hq]
  clear hx hy hq
  go_enter Try.func25, Try.ntmps25
  go_wp2
  go_loopw [5, 6] (fun s i wr => ∃ (j : Nat) (a' : Option Addr) (k' c' : Nat), j ≤ n ∧ j ≤ m ∧ i = .int .i64 j ∧ s = .slice a' k' c' ∧ k' = (packL (ws.take j) (vs.take j)).length ∧ wr.ownsRow q 5 1 (.slice a' k' c') k' (u8s (packL (ws.take j) (vs.take j))) ∧ Below q w wr)
    (fun _ i _ => n - (intOf i).toNat)
  case atStart => exact ⟨0, none, 0, 0, by omega, by omega, rfl, rfl, rfl, World.ownsRow_nil _ _ _ _, Below.refl _ _⟩
  case round =>
    obtain ⟨j, a', k', c', hj, hj', rfl, rfl, hk', ow, bl⟩ := hrel
    have HK : Hid (k' = (packL (ws.take j) (vs.take j)).length ∧ wr.ownsRow q 5 1 (.slice a' k' c') k' (u8s (packL (ws.take j) (vs.take j))) ∧ Below q w wr ∧ j ≤ n ∧ j ≤ m) := ⟨hk', ow, bl, hj, hj'⟩
    have hkb : k' ≤ 800000 := by
      have := pack_len (ws.take j) (vs.take j)
      rw [List.length_take] at this
      omega
    clear ow bl hk' hj hj'
    by_cases hend : j < n ∧ j < m
    · obtain ⟨hlt, hlt2⟩ := hend
      have hjn : (j : Int) < n := by omega
      have hjm : (j : Int) < m := by omega
      have hqs : Hid (Below w.heap.size w wr ∧ q ≤ wr.heap.size) := ⟨by rw [← H.out.2.2]; exact HK.out.2.2.1, by have := HK.out.2.2.1.size; rw [H.out.2.2] at *; exact this⟩
      obtain ⟨b1, o1, rfl, hc1⟩ := H.out.1.2.2.2.resolve_left (by omega)
      obtain ⟨b2, o2, rfl, hc2⟩ := H.out.2.1.2.2.2.resolve_left (by omega)
      have cw : wr.cell? ⟨b1, o1 + j, none⟩ = some (.int .i64 (ws.getD j 0)) := by rw [hqs.out.1.cell (old_block (hc1 j (by omega)))]; exact hc1 j (by omega)
      have HC : Hid (w.cell? ⟨b2, o2 + j, none⟩ = some (.int .u64 (vs.getD j 0))) := hc2 j (by omega)
      clear hc1 hc2
      have hv := fitsU (num_fits H.out.2.1.2.2.1 j (by rw [H.out.2.1.1]; omega))
      obtain ⟨X, eX⟩ : ∃ X, X = ws.getD j 0 := ⟨_, rfl⟩
      obtain ⟨V, eV⟩ : ∃ V, V = vs.getD j 0 := ⟨_, rfl⟩
      rw [← eX] at cw
      rw [← eV] at HC hv
      have HE : Hid (X = ws.getD j 0 ∧ V = vs.getD j 0) := ⟨eX, eV⟩
      clear eX eV
      unfold FitsU at hv
      obtain ⟨v0, v1⟩ := hv
      have hwd := wd_le X
      have hw1 := wd_pos X
      obtain ⟨K, hK⟩ : ∃ K, K = wd X := ⟨_, rfl⟩
      have cS := width_of X wr
      rw [← hK] at cS hwd hw1
      have HW : Hid (K = wd X) := hK
      clear hK
      obtain ⟨wk, rfl⟩ : ∃ wk, wk = wr := ⟨_, rfl⟩
      go_wp2_with (go_at_call 36; refine cS.mono ?_; rintro e wk ⟨rfl, rfl⟩)
      go_loopw [5, 7] (fun s i wr => ∃ (t : Nat) (a2 : Option Addr) (c2 : Nat), t ≤ K ∧ i = .int .i64 ((K : Int) - 1 - t) ∧ s = .slice a2 (k' + t : Nat) c2 ∧ wr.ownsRow q 5 1 (.slice a2 (k' + t) c2) (k' + t) (u8s (packL (ws.take j) (vs.take j) ++ (bigI K V).take t)) ∧ Below q w wr)
        (fun _ i _ => ((intOf i) + 1).toNat)
      case atStart => exact ⟨0, a', c', by omega, by go_num, rfl, by simpa using HK.out.2.1, HK.out.2.2.1⟩
      case round =>
        obtain ⟨t, a2, c2, ht, rfl, rfl, ow2, bl2⟩ := hrel
        have HT : Hid (wr.ownsRow q 5 1 (.slice a2 (k' + t) c2) (k' + t) (u8s (packL (ws.take j) (vs.take j) ++ (bigI K V).take t)) ∧ Below q w wr ∧ q ≤ wr.heap.size) := ⟨ow2, bl2, by have := bl2.size; rw [H.out.2.2] at *; exact this⟩
        clear ow2 bl2
        by_cases htk : t < K
        · obtain ⟨r, hr⟩ : ∃ r, r = K - 1 - t := ⟨_, rfl⟩
          have hr' : (K : Int) - 1 - t = r := by omega
          rw [hr']
          have hr0 : (0 : Int) ≤ r := by omega
          have hr8 : (r : Int) ≤ 7 := by omega
          have cv : wr.cell? ⟨b2, o2 + j, none⟩ = some (.int .u64 V) := by
            have hlt := old_block HC.out
            rw [← H.out.2.2] at hlt
            rw [HT.out.2.1.cell hlt]; exact HC.out
          have HR : Hid (r = K - 1 - t ∧ (K : Int) - 1 - t = r) := ⟨hr, hr'⟩
          clear hr hr'
          go_wp2_with (at_builtin; refine wpList_append_bin rfl (.tmp 30) (.tmp 40) rfl q a2 (k' + t) c2 _ rfl (HT.out.1.alloc _) (some ⟨wr.heap.size, 0, none⟩) 1 1 [V / 2 ^ (8 * r) % 256] rfl (new_bin rfl rfl rfl (byte_one _) (by unfold maxLen; omega)) (fun h => by cases h) (by omega) (by have := HT.out.2.2; simp; omega) ?_; intro a3 c3 w3 ow3 bl3)
          go_roundw
          case rel =>
            have hbl : Below q w w3 := (HT.out.2.1.alloc HT.out.2.2 _).trans bl3
            refine ⟨t + 1, a3, c3, by omega, by have := HR.out.2; go_num, by rfl, ?_, hbl⟩
            rw [List.append_assoc, HR.out.1, big_take K V htk] at ow3
            exact ow3
          case measure => simp [intOf] <;> omega
        · have htK : t = K := by omega
          have hm1 : (K : Int) - 1 - t = -1 := by omega
          rw [hm1]
          clear hm1
          go_wp2
          go_roundw
          case rel =>
            have e := pack_next ws vs (i := j) (by rw [H.out.1.1]; omega) (by rw [H.out.2.1.1]; omega)
            rw [← HE.out.1, ← HE.out.2, ← HW.out] at e
            have ow := HT.out.1
            have eB : (bigI K V).take K = bigI K V := List.take_of_length_le (by rw [bigI_length]; exact Nat.le_refl _)
            rw [htK, eB, ← e] at ow
            refine ⟨j + 1, a2, k' + t, c2, by omega, by omega, by go_num, by rfl, ?_, by rw [htK]; exact ow, HT.out.2.1⟩
            rw [e, List.length_append, bigI_length, HK.out.1, htK]
          case measure => simp [intOf]; omega
    · have hjM : j = min n m := by have := HK.out.2.2.2; omega
      have HE : Hid (packL (ws.take j) (vs.take j) = packL ws vs) := by
        show packL (ws.take j) (vs.take j) = packL ws vs
        exact packL_take ws vs j (by rw [hjM, H.out.1.1, H.out.2.1.1])
      clear hjM
      have fin : ∃ A k C, Ending.returned (.slice a' k' c') = .returned (.slice A k C) ∧ k = (packL ws vs).length ∧ wr.ownsRow q 5 1 (.slice A k C) k (u8s (packL ws vs)) ∧ Below q w wr :=
        ⟨a', k', c', rfl, by rw [HK.out.1, HE.out], by rw [← HE.out]; exact HK.out.2.1, HK.out.2.2.1⟩
      have HF : Hid (∃ A k C, Ending.returned (.slice a' k' c') = .returned (.slice A k C) ∧ k = (packL ws vs).length ∧ wr.ownsRow q 5 1 (.slice A k C) k (u8s (packL ws vs)) ∧ Below q w wr) := fin
      clear fin
      by_cases hjn : j < n
      · have h1 : (j : Int) < n := by omega
        have h2 : (m : Int) ≤ j := by omega
        go_wp2
        go_ret
        exact HF.out
      · have h1 : (n : Int) ≤ j := by omega
        go_wp2
        go_ret
        exact HF.out
end Go.Proofs.Ytggeadjebkhomaa
