/- What one call of schedule does. -/
import Derived.Test.YtpliokkmiijieaaDoorRound
import Derived.Test.YtpliokkmiijieaaDoorBlk
import Derived.Deep.RegionHeld3
namespace Go.Proofs.YtpliokkmiijieaaDoor
open Go.RowKit
set_option linter.unusedVariables false
set_option maxRecDepth 4000

theorem Tryd.byte1 : (Tryd.prog.info? 5).map (·.size) = some 1 := by kernel_rfl
theorem rel_word {B : List Int} {w wr : World} {k : Nat} {v : Int} (hlt : k < 64) (b0 : Blk wr w.heap.size (u8s B) 80) (b1 : Blk wr (w.heap.size + 1) (u32s (List.replicate 64 0)) 107) (b2 : Blk wr (w.heap.size + 1 + 1) (u32s (schedN B k)) 107)
    (hbel : Below w.heap.size w wr) (hv : v = stepW B (schedN B k) k) :
    Blk (wr.setCell ⟨w.heap.size + 1 + 1, k, none⟩ (.int .u32 v)) w.heap.size (u8s B) 80 ∧ Blk (wr.setCell ⟨w.heap.size + 1 + 1, k, none⟩ (.int .u32 v)) (w.heap.size + 1) (u32s (List.replicate 64 0)) 107 ∧
    Blk (wr.setCell ⟨w.heap.size + 1 + 1, k, none⟩ (.int .u32 v)) (w.heap.size + 1 + 1) (u32s (schedN B (k + 1))) 107 ∧ Below w.heap.size w (wr.setCell ⟨w.heap.size + 1 + 1, k, none⟩ (.int .u32 v)) := by
  subst hv
  refine ⟨b0.set_other (by simp; omega) _, b1.set_other (by simp) _, ?_, hbel.setCell (by simp; omega) _⟩
  have := b2.set k (.int .u32 (stepW B (schedN B k) k))
  have e : (u32s (schedN B k)).set k (.int .u32 (stepW B (schedN B k) k)) = u32s (schedN B (k + 1)) := by simp [u32s, schedN, List.map_set]
  rw [e] at this
  exact this
theorem rel_drew {w wr : World} {n a b c : Nat} {L M N : List Value} {s t u : TypeId} (h : Blk wr a L s ∧ Blk wr b M t ∧ Blk wr c N u ∧ Below n w wr) : Blk wr.drew a L s ∧ Blk wr.drew b M t ∧ Blk wr.drew c N u ∧ Below n w wr.drew :=
  ⟨h.1.drew, h.2.1.drew, h.2.2.1.drew, h.2.2.2.drew⟩
theorem next_eq (a b c d : Int) : (((a + b) % 4294967296 + c) % 4294967296 + d) % 4294967296 = (a + b + c + d) % 4294967296 := by omega
theorem Tryd.info_w64 : (Tryd.prog.info? 107).map (·.size) = some 64 := by kernel_rfl
theorem u32s_length (L : List Int) : (u32s L).length = L.length := by simp [u32s]
theorem u8s_length (L : List Int) : (u8s L).length = L.length := by simp [u8s]
theorem u32s_one (L : List Int) : ∀ v ∈ u32s L, v.oneCell' = true := by intro v hv; simp [u32s] at hv; obtain ⟨z, _, rfl⟩ := hv; rfl
theorem u8s_one (L : List Int) : ∀ v ∈ u8s L, v.oneCell' = true := by intro v hv; simp [u8s] at hv; obtain ⟨z, _, rfl⟩ := hv; rfl
theorem byteAt {w : World} {g : Nat} {B : List Int} {t : TypeId} (h : Blk w g (u8s B) t) (i : Nat) (hi : i < B.length) : w.cell? ⟨g, i, none⟩ = some (.int .u8 (B.getD i 0)) := by
  rw [h.cell]; simp [u8s, hi, List.getD]
theorem wordAt {w : World} {g : Nat} {B : List Int} {t : TypeId} (h : Blk w g (u32s B) t) (i : Nat) (hi : i < B.length) : w.cell? ⟨g, i, none⟩ = some (.int .u32 (B.getD i 0)) := by
  rw [h.cell]; simp [u32s, hi, List.getD]

set_option maxHeartbeats 1000000 in
theorem sched_of (B : List Int) (w : World) (hB : B.length = 64) (hf : ∀ z ∈ B, Fits8 z) :
    Calls Tryd.prog 60 #[.agg (u8s B).toArray] w fun en w' =>
      en = .returned (.agg (u32s (schedN B 64)).toArray) ∧ Below w.heap.size w w' := by
  obtain ⟨C, hC⟩ : ∃ C, C = (u8s B).toArray := ⟨_, rfl⟩
  rw [← hC]
  have HB : Hid (B.length = 64 ∧ (∀ z ∈ B, Fits8 z) ∧ C = (u8s B).toArray) := ⟨hB, hf, hC⟩
  clear hB hf hC
  go_enter Tryd.func60, Tryd.ntmps60
  go_wp2
  go_loopw [9] (fun i wr => ∃ k : Nat, k ≤ 16 ∧ i = .int .i64 k ∧ Blk wr w.heap.size (u8s B) 80 ∧ Blk wr (w.heap.size + 1) (u32s (List.replicate 64 0)) 107 ∧ Blk wr (w.heap.size + 1 + 1) (u32s (schedN B k)) 107 ∧ Below w.heap.size w wr)
    (fun i _ => 16 - (intOf i).toNat)
  case atStart =>
    refine ⟨0, by omega, rfl, ?_, ?_, ?_, ?_⟩
    · exact ((Blk.new' rfl HB.out.2.2).alloc _).alloc _
    · exact (Blk.new' (by simp) (by kernel_rfl)).alloc _
    · exact Blk.new' (by simp) (by kernel_rfl)
    · exact (((Below.refl _ _).alloc (by omega) _).alloc (by simp) _).alloc (by simp; omega) _
  case round =>
    obtain ⟨k, hk, rfl, b0, b1, b2, hbel⟩ := hrel
    by_cases hlt : k < 16
    · have hlt' : (k : Int) < 16 := by omega
      have hsl := fun wr => run_part (P := Tryd.prog) Tryd.underlying80 Tryd.byte1 wr w.heap.size 0 .i64 .i64 (4 * (k : Int)) (4 * (k : Int) + 4) (4 * k) (4 * k + 4) (by omega) (by omega) (by omega) (by omega) (by omega)
      simp only [Nat.zero_add, Nat.add_sub_cancel_left] at hsl
      have c0 := byteAt b0 (4 * k) (by have := HB.out.1; omega)
      have c1 := byteAt b0 (4 * k + 1) (by have := HB.out.1; omega)
      have c2 := byteAt b0 (4 * k + 2) (by have := HB.out.1; omega)
      have c3 := byteAt b0 (4 * k + 3) (by have := HB.out.1; omega)
      obtain ⟨p0, e0⟩ : ∃ p, p = B.getD (4 * k) 0 := ⟨_, rfl⟩
      obtain ⟨p1, e1⟩ : ∃ p, p = B.getD (4 * k + 1) 0 := ⟨_, rfl⟩
      obtain ⟨p2, e2⟩ : ∃ p, p = B.getD (4 * k + 2) 0 := ⟨_, rfl⟩
      obtain ⟨p3, e3⟩ : ∃ p, p = B.getD (4 * k + 3) 0 := ⟨_, rfl⟩
      rw [← e0] at c0; rw [← e1] at c1; rw [← e2] at c2; rw [← e3] at c3
      have E : Hid (p0 = B.getD (4 * k) 0 ∧ p1 = B.getD (4 * k + 1) 0 ∧ p2 = B.getD (4 * k + 2) 0 ∧ p3 = B.getD (4 * k + 3) 0) := ⟨e0, e1, e2, e3⟩
      clear e0 e1 e2 e3
      have hc : wr.cell? ⟨w.heap.size + 1 + 1, k, none⟩ = some (.int .u32 ((schedN B k).getD k 0)) := wordAt b2 k (by rw [schedN_length]; omega)
      have hz := b2.frozen k
      have hi0 : (0 : Int) ≤ k := by omega
      have hi1 : (k : Int) < 64 := by omega
      go_wp2
      go_region_held3 (fun w' => w'.cell? ⟨w.heap.size, 4 * k, none⟩ = some (.int .u8 p0) ∧ w'.cell? ⟨w.heap.size, 4 * k + 1, none⟩ = some (.int .u8 p1) ∧ w'.cell? ⟨w.heap.size, 4 * k + 2, none⟩ = some (.int .u8 p2) ∧ w'.cell? ⟨w.heap.size, 4 * k + 3, none⟩ = some (.int .u8 p3)) ((go_split_ands; (try simp only [World.cell?_drew]); (repeat' apply And.intro) <;> first | assumption | exact kept_set (by assumption) (by simp; omega))) (fail)
      go_wp2
      go_roundw
      case rel => exact ⟨k + 1, by omega, by go_num, rel_drew (rel_word (by omega) b0 b1 b2 hbel (by rw [stepW, if_pos hlt, E.out.1, E.out.2.1, E.out.2.2.1, E.out.2.2.2]; rfl))⟩
      case measure => simp [intOf]; omega
    · have H16 : Hid (k = 16) := by have : k = 16 := by omega
                                    exact this
      have hge : (16 : Int) ≤ k := by omega
      go_wp2
      go_loopw [6] (fun i wr => ∃ k : Nat, 16 ≤ k ∧ k ≤ 64 ∧ i = .int .i64 k ∧ Blk wr w.heap.size (u8s B) 80 ∧ Blk wr (w.heap.size + 1) (u32s (List.replicate 64 0)) 107 ∧ Blk wr (w.heap.size + 1 + 1) (u32s (schedN B k)) 107 ∧ Below w.heap.size w wr)
        (fun i _ => 64 - (intOf i).toNat)
      case atStart => exact ⟨16, by omega, by omega, rfl, b0, b1, H16.out ▸ b2, hbel⟩
      case round =>
        clear b0 b1 b2 hbel
        obtain ⟨k, hk16, hk, rfl, b0, b1, b2, hbel⟩ := hrel
        by_cases hlt : k < 64
        · have hlt' : (k : Int) < 64 := by omega
          have hge' : (16 : Int) ≤ k := by omega
          have c2 := wordAt b2 (k - 2) (by rw [schedN_length]; omega)
          have c15 := wordAt b2 (k - 15) (by rw [schedN_length]; omega)
          have c7 := wordAt b2 (k - 7) (by rw [schedN_length]; omega)
          have c16 := wordAt b2 (k - 16) (by rw [schedN_length]; omega)
          have F2 := getD_fits (schedN_fits B k) (k - 2)
          have F15 := getD_fits (schedN_fits B k) (k - 15)
          have G : Hid (∃ a b c d, a = (schedN B k).getD (k - 16) 0 ∧ b = (schedN B k).getD (k - 15) 0 ∧ c = (schedN B k).getD (k - 7) 0 ∧ d = (schedN B k).getD (k - 2) 0) := ⟨_, _, _, _, rfl, rfl, rfl, rfl⟩
          obtain ⟨x2, e2⟩ : ∃ p, p = (schedN B k).getD (k - 2) 0 := ⟨_, rfl⟩
          obtain ⟨x7, e7⟩ : ∃ p, p = (schedN B k).getD (k - 7) 0 := ⟨_, rfl⟩
          obtain ⟨x15, e15⟩ : ∃ p, p = (schedN B k).getD (k - 15) 0 := ⟨_, rfl⟩
          obtain ⟨x16, e16⟩ : ∃ p, p = (schedN B k).getD (k - 16) 0 := ⟨_, rfl⟩
          rw [← e2] at c2 F2; rw [← e7] at c7; rw [← e15] at c15 F15; rw [← e16] at c16
          have E : Hid (x2 = (schedN B k).getD (k - 2) 0 ∧ x7 = (schedN B k).getD (k - 7) 0 ∧ x15 = (schedN B k).getD (k - 15) 0 ∧ x16 = (schedN B k).getD (k - 16) 0) := ⟨e2, e7, e15, e16⟩
          clear e2 e7 e15 e16
          have m2 : (2 : Int) ≤ k := by omega
          have m7 : (7 : Int) ≤ k := by omega
          have m15 : (15 : Int) ≤ k := by omega
          have t2 : ((k : Int) - 2).toNat = k - 2 := by omega
          have t7 : ((k : Int) - 7).toNat = k - 7 := by omega
          have t15 : ((k : Int) - 15).toNat = k - 15 := by omega
          have t16 : ((k : Int) - 16).toNat = k - 16 := by omega
          have v2 : IntKind.i64.wrap ((k : Int) - 2) = (k : Int) - 2 := wrap_small _ (by omega) (by omega)
          have v7 : IntKind.i64.wrap ((k : Int) - 7) = (k : Int) - 7 := wrap_small _ (by omega) (by omega)
          have v15 : IntKind.i64.wrap ((k : Int) - 15) = (k : Int) - 15 := wrap_small _ (by omega) (by omega)
          have v16 : IntKind.i64.wrap ((k : Int) - 16) = (k : Int) - 16 := wrap_small _ (by omega) (by omega)
          have l2 : (0 : Int) ≤ (k : Int) - 2 := by omega
          have l7 : (0 : Int) ≤ (k : Int) - 7 := by omega
          have l15 : (0 : Int) ≤ (k : Int) - 15 := by omega
          have l16 : (0 : Int) ≤ (k : Int) - 16 := by omega
          have u2 : (k : Int) - 2 < 64 := by omega
          have u7 : (k : Int) - 7 < 64 := by omega
          have u15 : (k : Int) - 15 < 64 := by omega
          have u16 : (k : Int) - 16 < 64 := by omega
          have hc : wr.cell? ⟨w.heap.size + 1 + 1, k, none⟩ = some (.int .u32 ((schedN B k).getD k 0)) := wordAt b2 k (by rw [schedN_length]; omega)
          have hz := b2.frozen k
          have hne2 : ¬ k = k - 2 := by omega
          have hne7 : ¬ k = k - 7 := by omega
          have hne15 : ¬ k = k - 15 := by omega
          have hne16 : ¬ k = k - 16 := by omega
          go_wp2
          go_quiet (fail)
          go_wp2
          go_region_held3 (fun w' => w'.cell? ⟨w.heap.size + 1 + 1, k - 7, none⟩ = some (.int .u32 x7) ∧ w'.cell? ⟨w.heap.size + 1 + 1, k - 16, none⟩ = some (.int .u32 x16)) ((go_split_ands; (try simp only [World.cell?_drew, World.cell?_drewN]); (repeat' apply And.intro) <;> first | assumption | (rw [World.cell?_setCell_other _ _ _ _ (by simp <;> omega)]; first | assumption | (simp only [World.cell?_drewN]; assumption)))) ((go_at_call 65; refine (ror_of _ _ _ (by decide) (by assumption)).mono ?_; rintro e w' ⟨rfl, rfl⟩))
          go_wp2
          go_roundw
          case rel =>
            refine ⟨k + 1, by omega, by omega, by go_num, rel_word (by omega) (b0.drewN _) (b1.drewN _) (b2.drewN _) (below_drewN hbel _) ?_⟩
            rw [stepW, if_neg (by omega), next_eq, E.out.1, E.out.2.1, E.out.2.2.1, E.out.2.2.2]; rfl
          case measure => simp [intOf]; omega
        · have h64 : k = 64 := by omega
          rw [h64] at b2
          have hge2 : (64 : Int) ≤ k := by omega
          clear h64
          have hin : (Tryd.prog.info? 107).map (·.size) = some (u32s (schedN B 64)).length := by rw [u32s_length, schedN_length]; exact Tryd.info_w64
          have HT : Hid (wr.there (w.heap.size + 1) 0 (u32s (schedN B 64)).toArray.size) := b1.there 0 _ (by simp [u32s_length, schedN_length])
          go_wp2_with (first
            | (refine wpList_load_mid rfl 107 (.tmp 3) rfl (w.heap.size + 1 + 1) 0 rfl _ _ b2.whole Tryd.underlying107 rfl hin ?_)
            | (refine wpList_store_mid rfl 107 (.tmp 2) (.tmp 84) rfl (w.heap.size + 1) 0 (u32s (schedN B 64)).toArray rfl rfl HT.out (by simpa using hin) (all_oneCell_toArray (u32s_one _)) ?_))
          have b3 := b1.setAll (vs := u32s (schedN B 64)) (by simp [u32s_length, schedN_length])
          refine bodyPost_ret (v := .agg (u32s (schedN B 64)).toArray) (results_cell_one (p := 2) (ty := 107) rfl _ _ (w.heap.size + 1) _ _ _ rfl b3 Tryd.underlying107 rfl hin) rfl ⟨rfl, ?_⟩
          exact below_setCells (by omega) _ _ _ hbel
end Go.Proofs.YtpliokkmiijieaaDoor
