/- What one call of the document's own Take does. -/
import Derived.Test.YtggeadjebkhomaaWRef
namespace Go.Proofs.Ytggeadjebkhomaa
open Go.RowKit
set_option linter.unusedVariables false
set_option maxRecDepth 4000

theorem drop_at (xs : List Int) (o t : Nat) : (xs.drop o).getD t 0 = xs.getD (o + t) 0 := by simp [List.getD]
set_option maxHeartbeats 2000000 in
theorem refTake_of (a : Option Addr) (n c : Nat) (xs : List Int) (b : Option Addr) (m d : Nat) (ws : List Int) (w : World) (hx : BIn w a n xs) (hnil : a = none → n = 0 ∧ c = 0) (hnc : n ≤ c) (hy : NIn .i64 w b m ws) (hn : n ≤ 100000) (hm : m ≤ 100000) :
    Calls Try.prog 30 #[.slice a n c, .slice b m d] w fun e w' => ∃ A k C R r D, e = .returned (.tuple #[.slice A k C, .slice R r D, .bool (decide (offL ws ≤ xs.length))]) ∧ w'.ownsRow w.heap.size 22 1 (.slice A k C) k (kInts .u64 (takeV xs ws)) ∧ w'.ownsRow w.heap.size 5 1 (.slice R r D) r (u8s (takeR xs ws)) ∧ Below w.heap.size w w' := by
  obtain ⟨q, hq⟩ : ∃ q, q = w.heap.size := ⟨_, rfl⟩
  have H : Hid (BIn w a n xs ∧ NIn .i64 w b m ws ∧ q = w.heap.size ∧ (a = none → n = 0 ∧ c = 0) ∧ n ≤ c) := ⟨hx, hy, hq, hnil, hnc⟩
  rw [← hq]
  clear hx hy hq hnil hnc
  go_enter Try.func30, Try.ntmps30
  go_wp2
  go_loopw [7, 8, 9] (fun s o i wr => ∃ (j : Nat) (A : Option Addr) (C off : Nat), j ≤ m ∧ i = .int .i64 j ∧ s = .slice A j C ∧ o = .int .i64 off ∧ off = offL (ws.take j) ∧ off ≤ n ∧ wr.ownsRow q 22 1 (.slice A j C) j (kInts .u64 (valL xs (ws.take j))) ∧ Below q w wr)
    (fun _ _ i _ => m - (intOf i).toNat)
  case atStart => exact ⟨0, none, 0, 0, by omega, rfl, rfl, rfl, rfl, by omega, World.ownsRow_nil _ _ _ _, Below.refl _ _⟩
  case round =>
    obtain ⟨j, A, C, off, hj, rfl, rfl, rfl, hoff, hon, ow, bl⟩ := hrel
    have HK : Hid (off = offL (ws.take j) ∧ wr.ownsRow q 22 1 (.slice A j C) j (kInts .u64 (valL xs (ws.take j))) ∧ Below q w wr ∧ Below w.heap.size w wr ∧ q ≤ wr.heap.size) := ⟨hoff, ow, bl, by rw [← H.out.2.2.1]; exact bl, by have := bl.size; rw [H.out.2.2.1] at *; exact this⟩
    clear hoff ow bl
    by_cases hlt : j < m
    · have hlt' : (j : Int) < m := by omega
      obtain ⟨b1, o1, rfl, hc1⟩ := H.out.2.1.2.2.2.resolve_left (by omega)
      have cw : wr.cell? ⟨b1, o1 + j, none⟩ = some (.int .i64 (ws.getD j 0)) := by rw [HK.out.2.2.2.1.cell (old_block (hc1 j (by omega)))]; exact hc1 j (by omega)
      have hnx := take_next ws (i := j) (by rw [H.out.2.1.1]; omega)
      clear hc1
      obtain ⟨X, eX⟩ : ∃ X, X = ws.getD j 0 := ⟨_, rfl⟩
      rw [← eX] at cw hnx
      have HX : Hid (ws.take (j + 1) = ws.take j ++ [X]) := hnx
      clear eX hnx
      obtain ⟨K, hK⟩ : ∃ K, K = wd X := ⟨_, rfl⟩
      have cS := width_of X wr
      have hw8 := wd_le X
      have hw1 := wd_pos X
      rw [← hK] at cS hw8 hw1
      have HW : Hid (K = wd X) := hK
      clear hK
      by_cases hen : K ≤ n - off
      · have hen' : (K : Int) ≤ n - off := by omega
        obtain ⟨wk, rfl⟩ : ∃ wk, wk = wr := ⟨_, rfl⟩
        obtain ⟨b2, o2, rfl, hc2⟩ := H.out.1.2.2.2.resolve_left (by omega)
        have HC : Hid (∀ i, i < n → wk.cell? ⟨b2, o2 + i, none⟩ = some (.int .u8 (xs.getD i 0))) := fun i hi => by rw [HK.out.2.2.2.1.cell (old_block (hc2 i hi))]; exact hc2 i hi
        clear hc2
        go_wp2_with (go_at_call 36; refine cS.mono ?_; rintro e wk ⟨rfl, rfl⟩)
        go_loopw [11, 12] (fun v i wr => ∃ t : Nat, t ≤ K ∧ i = .int .i64 t ∧ v = .int .u64 (numI ((xs.drop off).take t)) ∧ wr = wk)
          (fun _ i _ => K - (intOf i).toNat)
        case atStart => exact ⟨0, by omega, rfl, rfl, rfl⟩
        case round =>
          obtain ⟨t, ht, rfl, rfl, rfl⟩ := hrel
          have hdf : ∀ z ∈ xs.drop off, Fits8 z := fun z hz => H.out.1.2.2.1 z (List.mem_of_mem_drop hz)
          have hdl : (xs.drop off).length = n - off := by rw [List.length_drop, H.out.1.1]
          by_cases htk : t < K
          · have htk' : (t : Int) < K := by omega
            have hcj := HC.out (off + t) (by omega)
            have hx : Fits8 (xs.getD (off + t) 0) := byte_fits H.out.1.2.2.1 (off + t)
            obtain ⟨x, ex⟩ : ∃ x, x = xs.getD (off + t) 0 := ⟨_, rfl⟩
            rw [← ex] at hcj hx
            obtain ⟨r0, r1⟩ := numI_range t ((xs.drop off).take t) (by rw [List.length_take, hdl]; omega) (fun z hz => hdf z (List.mem_of_mem_take hz))
            have r2 : numI ((xs.drop off).take t) < 72057594037927936 := by
              have := p256 t (by omega)
              omega
            have hnx : numI ((xs.drop off).take t) * 256 + x = numI ((xs.drop off).take (t + 1)) := by
              rw [take_next (xs.drop off) (by rw [hdl]; omega), numI_snoc, drop_at, ex]
            obtain ⟨N, eN⟩ : ∃ N, N = numI ((xs.drop off).take t) := ⟨_, rfl⟩
            rw [← eN] at r0 r2 hnx ⊢
            have hor := shl8 r0 r2 hx
            have HE : Hid (N * 256 + x = numI ((xs.drop off).take (t + 1))) := hnx
            have hin : (off : Int) + t < n := by omega
            obtain ⟨P, hP⟩ : ∃ P : Nat, P = off + t := ⟨_, rfl⟩
            have hP' : (off : Int) + t = P := by omega
            rw [← hP] at hcj
            have hPn : (P : Int) < n := by omega
            have hP0 : (0 : Int) ≤ P := by omega
            clear hnx eN ex r1 hdf hdl hP hin
            obtain ⟨hx0, hx1⟩ := hx
            go_wp2
            go_roundw
            case rel => exact ⟨t + 1, by omega, by go_num, by rw [← HE.out], trivial⟩
            case measure => simp [intOf] <;> omega
          · have hge : (K : Int) ≤ t := by omega
            have htK : t = K := by omega
            have hNf : FitsU (numI ((xs.drop off).take t)) := numI_u64 (by rw [List.length_take]; omega) (fun z hz => hdf z (List.mem_of_mem_take hz))
            have eN' : [numI ((xs.drop off).take t)] = [numI (((xs.drop (offL (ws.take j)))).take (wd X))] := by rw [htK, ← HW.out, HK.out.1]
            obtain ⟨N, eN⟩ : ∃ N, N = numI ((xs.drop off).take t) := ⟨_, rfl⟩
            rw [← eN] at hNf eN' ⊢
            have HV : Hid (FitsU N ∧ [N] = [numI (((xs.drop (offL (ws.take j)))).take (wd X))]) := ⟨hNf, eN'⟩
            clear eN hNf eN' htK hdf hdl
            go_wp2_with (at_builtin; refine wpList_append_nin (k := .u64) (size := 8) Try.underlying55 Try.zero_u64 (by decide) rfl (.tmp 46) (.tmp 48) rfl q A j C (valL xs (ws.take j)) rfl (HK.out.2.1.alloc _) (some ⟨wr.heap.size, 0, none⟩) 1 1 [N] rfl (new_nin rfl rfl rfl (by intro z hz; simp only [List.mem_cons, List.not_mem_nil, or_false] at hz; subst hz; exact wfU HV.out.1) (by unfold maxLen; omega)) (fun h => by cases h) (by omega) (by have := HK.out.2.2.2.2; simp; omega) ?_; intro A2 C2 w2 ow2 bl2)
            go_roundw
            case rel =>
              have e1 : valL xs (ws.take (j + 1)) = valL xs (ws.take j) ++ [N] := by rw [HX.out, valL_snoc, HV.out.2]
              refine ⟨j + 1, A2, C2, off + K, by omega, by go_num, by rfl, by go_num, by rw [HX.out, offL_snoc, ← HW.out, HK.out.1], by omega, by rw [e1]; exact ow2, (HK.out.2.2.1.alloc HK.out.2.2.2.2 _).trans bl2⟩
            case measure => simp [intOf] <;> omega
      · have hen' : (n : Int) - off < K := by omega
        have hno : ¬ offL ws ≤ xs.length := by
          have h1 := offL_take ws (j + 1)
          rw [HX.out, offL_snoc, ← HW.out, ← HK.out.1] at h1
          rw [H.out.1.1]
          omega
        have HF : Hid (¬ offL ws ≤ xs.length) := hno
        clear hno
        go_wp2_with (go_at_call 36; refine cS.mono ?_; rintro e wr ⟨rfl, rfl⟩)
        go_ret3
        refine ⟨none, 0, 0, none, 0, 0, ?_⟩
        rw [show takeV xs ws = [] by unfold takeV; rw [if_neg HF.out], show takeR xs ws = [] by unfold takeR; rw [if_neg HF.out], decide_eq_false HF.out]
        exact ⟨rfl, World.ownsRow_nil _ _ _ _, World.ownsRow_nil _ _ _ _, HK.out.2.2.1⟩
    · have hge : (m : Int) ≤ j := by omega
      have hjm : j = m := by omega
      subst hjm
      have eT : ws.take j = ws := List.take_of_length_le (by rw [H.out.2.1.1]; exact Nat.le_refl _)
      rw [eT] at HK
      clear hlt hj
      obtain ⟨a2, hsl, hb2, hn2⟩ := sliced_bin H.out.1 (k := off) hon H.out.2.2.2.2
      have H2 : Hid (BIn wr a2 (n - off) (xs.drop off) ∧ (a2 = none → n - off = 0 ∧ c - off = 0)) := by
        refine ⟨hb2.below HK.out.2.2.2.1, fun e => ?_⟩
        by_cases ha : a = none
        · have := H.out.2.2.2.1 ha; omega
        · exact absurd e (hn2 ha)
      have hsr : (Instr.slice 26 (.slice a n c) (some (.int .i64 (off : Int))) none none).run Try.prog wr = .ok (.slice a2 (n - off) (c - off)) wr := by
        rw [run_slice_l (P := Try.prog) wr 26 a n c Try.underlying26 .i64 off (by omega) (by omega)]
        have : (sizeOf (Try.prog.elem 26)).run Try.prog wr = .ok 1 wr := by kernel_rfl
        rw [this]
        simp only [Result.andThen, Int.toNat_natCast, hsl]
      clear hb2 hn2 hsl eT
      go_wp2_with (at_builtin; refine wpList_append_bin rfl (.tmp 53) (.tmp 56) rfl wr.heap.size none 0 0 [] rfl (World.ownsRow_nil _ _ _ _) a2 (n - off) (c - off) (xs.drop off) rfl H2.out.1 H2.out.2 (by omega) (Nat.le_refl _) ?_; intro R D w2 ow2 bl2)
      go_ret3
      have hyes : offL ws ≤ xs.length := by rw [H.out.1.1, ← HK.out.1]; exact hon
      refine ⟨A, j, C, R, 0 + (n - off), D, ?_⟩
      rw [show takeV xs ws = valL xs ws by unfold takeV; rw [if_pos hyes], show takeR xs ws = xs.drop (offL ws) by unfold takeR; rw [if_pos hyes], decide_eq_true hyes, ← HK.out.1]
      refine ⟨by simp, own_belowN HK.out.2.1 bl2 (Nat.le_refl _), own_lowerN ow2 HK.out.2.2.2.2, HK.out.2.2.1.trans (bl2.mono HK.out.2.2.2.2)⟩
end Go.Proofs.Ytggeadjebkhomaa
