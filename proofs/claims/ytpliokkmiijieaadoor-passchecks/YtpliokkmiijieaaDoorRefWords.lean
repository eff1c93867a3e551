/- What one call of the document's own words does: the sixty-four numbers of a block, in a row of their own. -/
import Derived.Test.YtpliokkmiijieaaDoorKeep
namespace Go.Proofs.YtpliokkmiijieaaDoor
open Go.RowKit
set_option linter.unusedVariables false
set_option maxRecDepth 4000

/-! ### Plain mathematics -/
def accN (B : List Int) (t : Nat) : Nat → Int
  | 0 => 0
  | j + 1 => bits .or .u32 (accN B t j * 256 % 4294967296) (B.getD (4 * t + j) 0 % 4294967296)
def wordsN (B : List Int) : Nat → List Int
  | 0 => []
  | t + 1 => wordsN B t ++ [if t < 16 then accN B t 4 else nextW (wordsN B t) t]
theorem wordsN_length (B : List Int) (t : Nat) : (wordsN B t).length = t := by
  induction t with
  | zero => rfl
  | succ t ih => simp [wordsN, ih]
theorem accN_fits (B : List Int) (t j : Nat) : Fits32 (accN B t j) := by
  cases j with
  | zero => exact ⟨by simp [accN], by simp [accN]⟩
  | succ j => exact or_fits (mod_fits _) (mod_fits _)
theorem wordsN_fits (B : List Int) (t : Nat) : ∀ z ∈ wordsN B t, Fits32 z := by
  induction t with
  | zero => intro z hz; cases hz
  | succ t ih =>
    intro z hz
    rcases List.mem_append.1 hz with h | h
    · exact ih z h
    · simp only [List.mem_cons, List.not_mem_nil, or_false] at h
      rw [h]; split
      · exact accN_fits B t 4
      · exact mod_fits _
theorem u32s_at {xs : List Int} {i : Nat} (h : i < xs.length) : (u32s xs)[i]? = some (.int .u32 (xs.getD i 0)) := by simp [u32s, h, List.getD]
/-- A row's cells, where it is not empty. -/
theorem own_at {w : World} {base n : Nat} {v : Value} {xs : List Int} (h : w.ownsRow base 23 1 v n (u32s xs)) (hn : 0 < n) :
    ∃ g cap, v = .slice (some ⟨g, 0, none⟩) n cap ∧ base ≤ g ∧ n ≤ cap ∧ g < w.heap.size ∧ xs.length = n ∧ ∀ i, i < n → w.cell? ⟨g, i, none⟩ = some (.int .u32 (xs.getD i 0)) := by
  have hl : xs.length = n := by have := h.1; simp [u32s] at this; omega
  rcases h.2 with ⟨_, h0⟩ | ⟨g, cap, cur, rfl, hb, hg, hc, _⟩
  · omega
  · refine ⟨g, cap, rfl, hb, hc, (Array.getElem?_eq_some_iff.1 hg).1, hl, fun i hi => ?_⟩
    have := h.cells (g := g) rfl i (.int .u32 (xs.getD i 0)) (by simp [u32s, List.getD, hl, hi])
    rwa [Addr.add_mid, Nat.zero_add] at this

set_option maxHeartbeats 1000000 in
theorem refwords_of (b off c : Nat) (B : List Int) (w : World) (hB : B.length = 64) (hcell : ∀ i, i < 64 → w.cell? ⟨b, off + i, none⟩ = some (.int .u8 (B.getD i 0))) :
    Calls Tryd.prog 62 #[.slice (some ⟨b, off, none⟩) 64 c] w fun e w' => ∃ v, e = .returned v ∧ w'.ownsRow w.heap.size 23 1 v 64 (u32s (wordsN B 64)) ∧ Below w.heap.size w w' := by
  obtain ⟨q, hq⟩ : ∃ q, q = w.heap.size := ⟨_, rfl⟩
  have H : Hid (B.length = 64 ∧ (∀ i, i < 64 → w.cell? ⟨b, off + i, none⟩ = some (.int .u8 (B.getD i 0))) ∧ q = w.heap.size) := ⟨hB, hcell, hq⟩
  rw [← hq]
  clear hB hcell hq
  go_enter Tryd.func62, Tryd.ntmps62
  go_wp2
  go_loopw [3, 4] (fun v t wr => ∃ k : Nat, k ≤ 64 ∧ t = .int .i64 k ∧ wr.ownsRow q 23 1 v k (u32s (wordsN B k)) ∧ Below q w wr ∧ q ≤ wr.heap.size)
    (fun _ t _ => 64 - (intOf t).toNat)
  case atStart => exact ⟨0, by omega, rfl, World.ownsRow_nil _ _ _ _, Below.refl _ _, by rw [H.out.2.2]; exact Nat.le_refl _⟩
  case round =>
    obtain ⟨k, hk, rfl, how, hb, hsz⟩ := hrel
    have HO : Hid (wr.ownsRow q 23 1 u3 k (u32s (wordsN B k)) ∧ Below q w wr ∧ q ≤ wr.heap.size) := ⟨how, hb, hsz⟩
    clear how hb hsz
    by_cases hlt : k < 64
    · have hlt' : (k : Int) < 64 := by omega
      by_cases h16 : k < 16
      · have h16' : (k : Int) < 16 := by omega
        go_wp2
        go_loop [5, 6] (fun n j => ∃ i : Nat, i ≤ 4 ∧ j = .int .i64 i ∧ n = .int .u32 (accN B k i)) (fun _ j => 4 - (intOf j).toNat)
        case atStart => exact ⟨0, by omega, rfl, rfl⟩
        case round =>
          obtain ⟨i, hi, rfl, rfl⟩ := hrel
          by_cases hi4 : i < 4
          · have hi4' : (i : Int) < 4 := by omega
            have hc : wr.cell? ⟨b, off + (4 * k + i), none⟩ = some (.int .u8 (B.getD (4 * k + i) 0)) := by
              have h := H.out.2.1 (4 * k + i) (by omega)
              rw [HO.out.2.1.cell (by have := old_block h; rw [H.out.2.2]; exact this)]; exact h
            have ti : (4 * (k : Int) + i).toNat = 4 * k + i := by omega
            go_wp2
            go_round
            case rel => exact ⟨i + 1, by omega, by go_num, rfl⟩
            case measure => simp [intOf]; omega
          · have HI : Hid (i = 4) := by have : i = 4 := by omega
                                        exact this
            have hi4' : (4 : Int) ≤ i := by omega
            go_wp2_with (refine wpList_append_keep rfl (.tmp 30) (.tmp 32) rfl q u3 k (wordsN B k) rfl (HO.out.1.alloc _) ⟨wr.heap.size, 0, none⟩ 1 (accN B k i) rfl (by simp) (by omega) (by have := HO.out.2.2; simp; omega) ?_; intro v' w' ow' gr')
            have r1 : w'.ownsRow q 23 1 v' (k + 1) (u32s (wordsN B (k + 1))) := by
              have e : wordsN B (k + 1) = wordsN B k ++ [accN B k i] := by rw [wordsN, if_pos h16, HI.out]
              rw [e]; exact ow'
            have r2 : Below q w w' := (HO.out.2.1.alloc HO.out.2.2 _).grown gr' (by have := HO.out.2.2; simp; omega) (fun g hg => (HO.out.1.lt g hg).1)
            have r3 : q ≤ w'.heap.size := Nat.le_trans (by rw [H.out.2.2]; exact Nat.le_refl _) r2.size
            clear ow' gr'
            go_wp2
            go_roundw
            case rel => exact ⟨k + 1, by omega, by go_num, r1, r2, r3⟩
            case measure => simp [intOf]; omega
      · have h16' : (16 : Int) ≤ k := by omega
        obtain ⟨g, cap, hv, hbg, hkc, hglt, hwl, hcells⟩ := own_at HO.out.1 (by omega)
        have HV : Hid (wr.ownsRow q 23 1 (.slice (some ⟨g, 0, none⟩) k cap) k (u32s (wordsN B k)) ∧ Below q w wr ∧ q ≤ wr.heap.size ∧ q ≤ g ∧ g < wr.heap.size) := by
          have h := HO.out; rw [hv] at h; exact ⟨h.1, h.2.1, h.2.2, hbg, hglt⟩
        subst hv
        have c15 := hcells (k - 15) (by omega)
        have c2 := hcells (k - 2) (by omega)
        have c16 := hcells (k - 16) (by omega)
        have c7 := hcells (k - 7) (by omega)
        obtain ⟨x2, e2⟩ : ∃ p, p = (wordsN B k).getD (k - 2) 0 := ⟨_, rfl⟩
        obtain ⟨x7, e7⟩ : ∃ p, p = (wordsN B k).getD (k - 7) 0 := ⟨_, rfl⟩
        obtain ⟨x15, e15⟩ : ∃ p, p = (wordsN B k).getD (k - 15) 0 := ⟨_, rfl⟩
        obtain ⟨x16, e16⟩ : ∃ p, p = (wordsN B k).getD (k - 16) 0 := ⟨_, rfl⟩
        have F2 := getD_fits (wordsN_fits B k) (k - 2)
        have F15 := getD_fits (wordsN_fits B k) (k - 15)
        rw [← e2] at c2 F2; rw [← e7] at c7; rw [← e15] at c15 F15; rw [← e16] at c16
        have E : Hid (x2 = (wordsN B k).getD (k - 2) 0 ∧ x7 = (wordsN B k).getD (k - 7) 0 ∧ x15 = (wordsN B k).getD (k - 15) 0 ∧ x16 = (wordsN B k).getD (k - 16) 0 ∧ k ≤ cap ∧ (wordsN B k).length = k) := ⟨e2, e7, e15, e16, hkc, hwl⟩
        clear e2 e7 e15 e16 hcells HO hbg hglt hkc hwl
        have t2 : ((k : Int) - 2).toNat = k - 2 := by omega
        have t7 : ((k : Int) - 7).toNat = k - 7 := by omega
        have t15 : ((k : Int) - 15).toNat = k - 15 := by omega
        have t16 : ((k : Int) - 16).toNat = k - 16 := by omega
        have v2 : IntKind.i64.wrap ((k : Int) - 2) = (k : Int) - 2 := wrap_small _ (by omega) (by omega)
        have v7 : IntKind.i64.wrap ((k : Int) - 7) = (k : Int) - 7 := wrap_small _ (by omega) (by omega)
        have v15 : IntKind.i64.wrap ((k : Int) - 15) = (k : Int) - 15 := wrap_small _ (by omega) (by omega)
        have v16 : IntKind.i64.wrap ((k : Int) - 16) = (k : Int) - 16 := wrap_small _ (by omega) (by omega)
        have m2 : (2 : Int) ≤ k := by omega
        have m7 : (7 : Int) ≤ k := by omega
        have m15 : (15 : Int) ≤ k := by omega
        have l2 : (0 : Int) ≤ (k : Int) - 2 := by omega
        have l7 : (0 : Int) ≤ (k : Int) - 7 := by omega
        have l15 : (0 : Int) ≤ (k : Int) - 15 := by omega
        have l16 : (0 : Int) ≤ (k : Int) - 16 := by omega
        have n2 : (k : Int) - 2 < k := by omega
        have n7 : (k : Int) - 7 < k := by omega
        have n15 : (k : Int) - 15 < k := by omega
        have n16 : (k : Int) - 16 < k := by omega
        go_wp2
        go_region_held3 (fun w' => w'.cell? ⟨g, k - 16, none⟩ = some (.int .u32 x16) ∧ w'.cell? ⟨g, k - 7, none⟩ = some (.int .u32 x7))
          ((go_split_ands; (try simp only [World.cell?_drew]); (repeat' apply And.intro) <;> first | assumption | exact cell_alloc (by assumption) _))
          (first
            | (go_at_call 64; refine (refror_of _ _ _ (by decide) (by assumption)).mono ?_; rintro e w' ⟨rfl, rfl⟩)
            | (refine step_append_keep rfl (.tmp 44) (.tmp 74) rfl q (.slice (some ⟨g, 0, none⟩) k cap) k (wordsN B k) rfl (HV.out.1.alloc _) ⟨wr.heap.size, 0, none⟩ 1 _ rfl (by simp; rfl) (by omega) (by have := HV.out.2.2.1; simp; omega) ?_; intro v' w' ow' gr' kp'; have k16 : w'.cell? ⟨g, k - 16, none⟩ = some (.int .u32 x16) := kp' g (k - 16) _ rfl (by rw [E.out.2.2.2.1]; exact u32s_at (by rw [E.out.2.2.2.2.2]; omega)); have k7 : w'.cell? ⟨g, k - 7, none⟩ = some (.int .u32 x7) := kp' g (k - 7) _ rfl (by rw [E.out.2.1]; exact u32s_at (by rw [E.out.2.2.2.2.2]; omega)); clear kp'))
        have r2 : Below q w w' := (HV.out.2.1.drew.alloc (by have := HV.out.2.2.1; exact this) _).grown gr' (by have := HV.out.2.2.1; simp; omega) (fun g hg => (HV.out.1.lt g hg).1)
        have r3 : q ≤ w'.heap.size := Nat.le_trans (by rw [H.out.2.2]; exact Nat.le_refl _) r2.size
        have r1 : w'.ownsRow q 23 1 v' (k + 1) (u32s (wordsN B (k + 1))) := by
          have e : wordsN B (k + 1) = wordsN B k ++ [nextW (wordsN B k) k] := by rw [wordsN, if_neg h16]
          rw [e, nextW, ← E.out.1, ← E.out.2.1, ← E.out.2.2.1, ← E.out.2.2.2.1, ← next_eq]
          simp only [IntKind.wrap_u32'] at ow'
          exact ow'
        clear ow' gr' k16 k7
        go_wp2
        go_roundw
        case rel => exact ⟨k + 1, by omega, by go_num, r1, r2, r3⟩
        case measure => simp [intOf]; omega
    · have h64 : k = 64 := by omega
      have hge : (64 : Int) ≤ k := by omega
      have HF : Hid (wr.ownsRow q 23 1 u3 64 (u32s (wordsN B 64)) ∧ Below q w wr) := by
        have h := HO.out; rw [h64] at h; exact ⟨h.1, h.2.1⟩
      clear h64
      go_wp2
      go_ret
      exact ⟨_, rfl, HF.out.1, HF.out.2⟩
end Go.Proofs.YtpliokkmiijieaaDoor
