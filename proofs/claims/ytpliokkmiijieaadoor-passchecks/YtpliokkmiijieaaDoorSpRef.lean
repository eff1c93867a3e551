/- What one call of the document's own Write does. -/
import Derived.Test.YtpliokkmiijieaaDoorSpKnown
import Derived.BigQuiet
namespace Go.Proofs.YtpliokkmiijieaaDoor
open Go.RowKit
set_option linter.unusedVariables false
set_option maxRecDepth 4000

def signsS : ByteArray := ⟨#[97, 98, 99, 100, 101, 102, 103, 104, 105, 106, 107, 108, 109, 110, 111, 112, 113, 114, 115, 116, 117, 118, 119, 120, 121, 122, 50, 51, 52, 53, 54, 55]⟩
/-- One sign out of the thirty-two. -/
theorem sign_cut (N : Nat) (h : N < 32) : signsS.extract N (N + 1) = strOfNums [signI N] := by
  have : ∀ n : Fin 32, signsS.extract n.1 (n.1 + 1) = strOfNums [signI (n.1 : Int)] := by decide +kernel
  exact this ⟨N, h⟩
theorem str_app (xs ys : List Int) : strOfNums xs ++ strOfNums ys = strOfNums (xs ++ ys) := by
  unfold strOfNums
  rw [ByteArray.mk_append_mk]
  simp
theorem bit_mask (x : Int) (k : Nat) (hx : 0 ≤ x ∧ x < 256) : (x / 2 ^ k % 2 = 0 ∧ bits .and .u8 (x / 2 ^ k) 1 = 0) ∨ (x / 2 ^ k % 2 = 1 ∧ bits .and .u8 (x / 2 ^ k) 1 = 1) := by
  have h0 : 0 ≤ x / 2 ^ k := Int.ediv_nonneg hx.1 (Int.le_of_lt (p2_pos k))
  have h1 : x / 2 ^ k ≤ x := Int.ediv_le_self _ hx.1
  have h : bits .and .u8 (x / 2 ^ k) 1 = x / 2 ^ k % 2 :=
    bits_mask .u8 8 (by decide) (fun n h0 h1 => by rw [show (2 : Int) ^ 8 = 256 from rfl] at h1; rw [IntKind.wrap_u8']; omega) 1 (by decide) _ h0 (by rw [show (2 : Int) ^ 8 = 256 from rfl]; omega)
  rw [h]
  omega
theorem sign_slice (N : Nat) (h : N < 32) (w : World) : (Instr.slice 9 (.string signsS) (some (.int .i64 (N : Int))) (some (.int .i64 ((N : Int) + 1))) none).run Tryd.prog w = .ok (.string (strOfNums [signI N])) w := by
  have hs : signsS.size = 32 := by kernel_rfl
  rw [run_slice_string w 9 signsS .i64 .i64 N ((N : Int) + 1) Tryd.underlying9 (by omega) (by omega) (by rw [hs]; omega), ← sign_cut N h]
  rfl

set_option maxHeartbeats 2000000 in
theorem refWrite_of (a : Option Addr) (n c : Nat) (xs : List Int) (w : World) (h : BIn w a n xs) (hn : n ≤ 100000) :
    Calls Tryd.prog 28 #[.slice a n c] w fun e w' => e = .returned (.string (strOfNums (wrI xs))) ∧ Below w.heap.size w w' := by
  have H : Hid (BIn w a n xs) := h
  clear h
  go_enter Tryd.func28, Tryd.ntmps28
  go_wp2
  go_loopw [3, 4] (fun s i wr => ∃ k : Nat, k ≤ scN n ∧ i = .int .i64 ((5 * k : Nat) : Int) ∧ s = .string (strOfNums ((wrI xs).take k)) ∧ wr = w)
    (fun _ i _ => 8 * n + 5 - (intOf i).toNat)
  case atStart => exact ⟨0, by omega, rfl, rfl, rfl⟩
  case round =>
    obtain ⟨k, hk, rfl, rfl, rfl⟩ := hrel
    by_cases hlt : 5 * k < 8 * n
    · have hlt' : ((5 * k : Nat) : Int) < 8 * (n : Int) := by omega
      obtain ⟨s, hs⟩ : ∃ s, s = strOfNums ((wrI xs).take k) := ⟨_, rfl⟩
      rw [← hs]
      have hss : s.size ≤ 200000 := by rw [hs, strOfNums_size, List.length_take, wrI_length, H.out.1]; unfold scN; omega
      obtain ⟨i, hi⟩ : ∃ i, i = 5 * k := ⟨_, rfl⟩
      rw [← hi] at hlt' ⊢
      have HS : Hid (s = strOfNums ((wrI xs).take k) ∧ i = 5 * k ∧ k < scN n) := ⟨hs, hi, by unfold scN; omega⟩
      have hib : (i : Int) ≤ 800000 := by omega
      clear hs hi hlt hk
      obtain ⟨wk, rfl⟩ : ∃ wk, wk = wr := ⟨_, rfl⟩
      go_wp2
      go_loopw [5, 6] (fun v j w' => ∃ t : Nat, t ≤ 5 ∧ j = .int .i64 ((i + t : Nat) : Int) ∧ v = .int .i64 (sumB (bitOf 8 xs) i t) ∧ w' = wk)
        (fun _ j _ => i + 5 - (intOf j).toNat)
      case atStart => exact ⟨0, by omega, rfl, rfl, rfl⟩
      case round =>
        obtain ⟨t, ht, rfl, rfl, rfl⟩ := hrel
        obtain ⟨J, hJ⟩ : ∃ J, J = i + t := ⟨_, rfl⟩
        rw [← hJ]
        obtain ⟨V, hV⟩ : ∃ V, V = sumB (bitOf 8 xs) i t := ⟨_, rfl⟩
        rw [← hV]
        have hV0 : 0 ≤ V := by rw [hV]; exact sumB_nonneg (bitOf_bit _ _) _ _
        by_cases ht5 : t < 5
        · have hV1 : V < 32 := by
            have h1 := sumB_lt (bitOf_bit 8 xs) i t
            rw [← hV] at h1
            have : (2 : Int) ^ t ≤ 16 := by
              match t, ht5 with
              | 0, _ => decide
              | 1, _ => decide
              | 2, _ => decide
              | 3, _ => decide
              | 4, _ => decide
            omega
          have hJ5 : (J : Int) < (i : Int) + 5 := by omega
          have hJ1 : (J : Int) ≤ 800005 := by omega
          have HJ : Hid (J = i + t ∧ V = sumB (bitOf 8 xs) i t ∧ t < 5) := ⟨hJ, hV, ht5⟩
          clear hJ hV ht ht5
          by_cases hin : J < 8 * n
          · have hin' : (J : Int) < 8 * (n : Int) := by omega
            obtain ⟨b, off, rfl, hc⟩ := H.out.2.2.2.resolve_left (by omega)
            have hx := byte_fits H.out.2.2.1 (J / 8)
            have cx := hc (J / 8) (by omega)
            obtain ⟨x, hx'⟩ : ∃ x, x = xs.getD (J / 8) 0 := ⟨_, rfl⟩
            rw [← hx'] at hx cx
            obtain ⟨Q, hQ⟩ : ∃ Q, Q = J / 8 := ⟨_, rfl⟩
            obtain ⟨r, hr⟩ : ∃ r, r = J % 8 := ⟨_, rfl⟩
            rw [← hQ] at cx
            have q1 : (J : Int) / 8 = Q := by omega
            have q2 : (J : Int) % 8 = r := by omega
            have q3 : (Q : Int) < n := by omega
            have q4 : r < 8 := by omega
            have q4' : (r : Int) < 8 := by omega
            have hbit : bitOf 8 xs J = x / 2 ^ (7 - r) % 2 := by unfold bitOf; rw [← hx', hr]
            have HX : Hid (bitOf 8 xs J = x / 2 ^ (7 - r) % 2) := hbit
            unfold Fits8 at hx
            clear hx' hQ hr hbit hc hin
            rcases bit_mask x (7 - r) hx with ⟨hb, hb'⟩ | ⟨hb, hb'⟩
            · have HB : Hid (x / 2 ^ (7 - r) % 2 = 0) := hb
              clear hb
              go_wp2
              go_roundw
              case rel => exact ⟨t + 1, by have := HJ.out.2.2; omega, by rw [HJ.out.1]; go_num, by rw [sumB, ← HJ.out.1, HX.out, HB.out, ← HJ.out.2.1]; go_num, trivial⟩
              case measure => have := HJ.out.1; simp [intOf]; omega
            · have HB : Hid (x / 2 ^ (7 - r) % 2 = 1) := hb
              clear hb
              go_wp2
              go_roundw
              case rel => exact ⟨t + 1, by have := HJ.out.2.2; omega, by rw [HJ.out.1]; go_num, by rw [sumB, ← HJ.out.1, HX.out, HB.out, ← HJ.out.2.1], trivial⟩
              case measure => have := HJ.out.1; simp [intOf]; omega
          · have hin' : 8 * (n : Int) ≤ J := by omega
            have HX : Hid (bitOf 8 xs J = 0) := bitOf_out (by decide) xs J (by rw [H.out.1]; omega)
            go_wp2
            go_roundw
            case rel => exact ⟨t + 1, by have := HJ.out.2.2; omega, by rw [HJ.out.1]; go_num, by rw [sumB, ← HJ.out.1, HX.out, ← HJ.out.2.1]; go_num, trivial⟩
            case measure => have := HJ.out.1; simp [intOf]; omega
        · have hJ5 : (i : Int) + 5 ≤ J := by omega
          have ht' : t = 5 := by omega
          have hV1 : V < 32 := by rw [hV, ht']; exact sumB_lt (bitOf_bit 8 xs) i 5
          obtain ⟨N, rfl⟩ := Int.eq_ofNat_of_zero_le hV0
          have hcut := fun w => sign_slice N (by omega) w
          have HN : Hid ((N : Int) = sumB (bitOf 8 xs) i 5) := by rw [hV, ht']; exact rfl
          have hN : N < 32 := by omega
          unfold signsS at hcut
          have g1 : (strOfNums [signI N]).size = 1 := by rw [strOfNums_size]; rfl
          clear hJ hV ht ht5 ht' hV0 hV1
          go_wp2
          go_roundw
          case rel =>
            refine ⟨k + 1, HS.out.2.2, by have := HS.out.2.1; go_num, ?_, trivial⟩
            have hl : k < (wrI xs).length := by rw [wrI_length, H.out.1]; exact HS.out.2.2
            have e := wrI_at xs k (by rw [H.out.1]; exact HS.out.2.2)
            rw [← HS.out.2.1, ← HN.out] at e
            have e2 : (wrI xs)[k] = signI N := by simpa [List.getD, hl] using e
            rw [HS.out.1, str_app, List.take_succ_eq_append_getElem hl, e2]
          case measure => simp [intOf]; omega
    · have hge : 8 * (n : Int) ≤ ((5 * k : Nat) : Int) := by omega
      have hkm : k = scN n := by unfold scN at hk ⊢; omega
      have HE : Hid (strOfNums ((wrI xs).take k) = strOfNums (wrI xs)) := by rw [List.take_of_length_le (by rw [wrI_length, H.out.1, hkm]; exact Nat.le_refl _)]; exact rfl
      clear hkm
      go_wp2
      go_ret
      exact ⟨by rw [← HE.out]; rfl, Below.refl _ _⟩
end Go.Proofs.YtpliokkmiijieaaDoor
