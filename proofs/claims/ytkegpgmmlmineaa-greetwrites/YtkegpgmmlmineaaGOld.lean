/- What one call of greet's Old does. -/
import Derived.Test.YtkegpgmmlmineaaGInfo
namespace Go.Proofs.Ytkegpgmmlmineaa
open Go.RowKit
set_option linter.unusedVariables false
set_option maxRecDepth 4000

set_option maxHeartbeats 4000000 in
theorem old_of (T S : Int) (ro no : Bool) (w : World) (hS : FitsU S) : Calls Try.prog 26 #[.agg #[.int .u32 T, .int .u64 S, .bool ro], .bool no] w fun e w' => ∃ a k c, e = .returned (.slice a k c) ∧ BIn w' a k (oldL S ro no) ∧ Below w.heap.size w w' := by
  obtain ⟨q, hq⟩ : ∃ q, q = w.heap.size := ⟨_, rfl⟩
  have b0 : Blk (w.alloc (.cells #[.int .u32 T, .int .u64 S, .bool ro] 47)) q (expL T S ro) 47 := Blk.new' hq.symm rfl
  have bw : Below q w (w.alloc (.cells #[.int .u32 T, .int .u64 S, .bool ro] 47)) := (Below.refl _ _).alloc (by omega) _
  have bs : (w.alloc (.cells #[.int .u32 T, .int .u64 S, .bool ro] 47)).heap.size = q + 1 := by simp [hq]
  rw [← hq]
  go_enter Try.func26, Try.ntmps26
  go_upto_region 1 with fail
  rw [← hq]
  generalize hW : World.alloc w _ = W at b0 bw bs ⊢
  have hqw : q ≤ w.heap.size := by omega
  have H : Hid (Blk W q (expL T S ro) 47 ∧ Below q w W ∧ W.heap.size = q + 1 ∧ q ≤ w.heap.size) := ⟨b0, bw, bs, hqw⟩
  have c0 : W.cell? ⟨q, 0, none⟩ = some (.int .u32 T) := b0.cell 0
  have c1 : W.cell? ⟨q, 1, none⟩ = some (.int .u64 S) := b0.cell 1
  have c2 : W.cell? ⟨q, 2, none⟩ = some (.bool ro) := b0.cell 2
  have g0 : ∀ o, (W.alloc o).cell? ⟨q, 0, none⟩ = some (.int .u32 T) := fun o => (b0.alloc o).cell 0
  have g1 : ∀ o, (W.alloc o).cell? ⟨q, 1, none⟩ = some (.int .u64 S) := fun o => (b0.alloc o).cell 1
  have g2 : ∀ o, (W.alloc o).cell? ⟨q, 2, none⟩ = some (.bool ro) := fun o => (b0.alloc o).cell 2
  obtain ⟨F, hF⟩ : ∃ F, F = flI ro := ⟨_, rfl⟩
  have fF : FitsU F := by rw [hF]; exact flI_fits ro
  have cF := fun X => exportFlags_of T S ro X
  rw [← hF] at cF
  have LW := lit_ws [8, 2] #[.int .i64 8, .int .i64 2] rfl 2 rfl rfl (by omega)
  have LV := lit_vs [S, F] #[.int .u64 S, .int .u64 F] rfl 2 rfl (fits2 hS fF) (by omega)
  have L1 : NIn .i64 (W.alloc (.cells #[.int .i64 8, .int .i64 2] 3)).drew (some ⟨W.heap.size, 0, none⟩) 2 [8, 2] := LW W _ rfl
  obtain ⟨P, hP⟩ : ∃ P, P = packL [8, 2] [S, F] := ⟨_, rfl⟩
  have hPl := pack_small [8, 2] [S, F] (by simp)
  have hPf := packL_fits [8, 2] [S, F]
  have cP := fun a b X h1 h2 => pack_of a 2 2 [8, 2] b 2 2 [S, F] X h1 h2 (by omega) (by omega)
  rw [← hP] at hPl hPf
  simp only [← hP] at cP
  have HP : Hid (P = packL [8, 2] [S, F] ∧ F = flI ro ∧ P.length ≤ 32 ∧ ∀ z ∈ P, Fits8 z) := ⟨hP, hF, hPl, hPf⟩
  have HL : Hid (NIn .i64 (W.alloc (.cells #[.int .i64 8, .int .i64 2] 3)).drew (some ⟨W.heap.size, 0, none⟩) 2 [8, 2] ∧ (∀ (X : World) (g : Nat), X.heap.size = g → NIn .i64 (X.alloc (.cells #[.int .i64 8, .int .i64 2] 3)) (some ⟨g, 0, none⟩) 2 [8, 2]) ∧ ∀ (X : World) (g : Nat), X.heap.size = g → NIn .u64 (X.alloc (.cells #[.int .u64 S, .int .u64 F] 45)) (some ⟨g, 0, none⟩) 2 [S, F]) := ⟨L1, LW, LV⟩
  clear hW b0 bw bs hq hF fF LW LV L1 hP hPl hPf hqw
  go_region_law (first
    | (go_simp; go_at_call 34; refine (cF _).mono ?_; rintro e w1 ⟨rfl, b1⟩; have y1 : Blk w1 q (expL T S ro) 47 := Blk.below (by first | exact H.out.1.drew | exact (H.out.1.alloc _).drew) b1 (by have := H.out.2.2.1; simp; omega); have k1 : w1.cell? ⟨q, 1, none⟩ = some (.int .u64 S) := y1.cell 1; have k2 : ∀ o, (w1.alloc o).cell? ⟨q, 1, none⟩ = some (.int .u64 S) := fun o => (y1.alloc o).cell 1; have B1 : Hid (Below q w w1) := below_via (by first | exact H.out.2.1.drew | exact (below_more H.out.2.1 H.out.2.2.2 _).drew) H.out.2.2.2 b1; (try have n1 := HL.out.1.below b1); clear b1 y1)
    | (go_simp; go_at_call 32; refine (cP _ _ _ (by first | exact n1.alloc _ | exact (HL.out.2.1 w1 _ rfl).alloc _ | exact HL.out.2.1 (w1.alloc _) _ (by simp)) (by first | exact HL.out.2.2 w1 _ rfl | exact HL.out.2.2 (w1.alloc _) _ (by simp) | exact (HL.out.2.2 w1 _ rfl).alloc _)).mono ?_; rintro e w2 ⟨a2, m2, d2, rfl, hm2, ow2, b2⟩; have Z : Hid (w2.ownsRow q 5 1 (.slice a2 m2 d2) m2 (u8s P) ∧ Below q w w2 ∧ m2 ≤ 32 ∧ q ≤ w2.heap.size) := (have B : Below q w w2 := below_via (by first | exact below_more B1.out H.out.2.2.2 _ | exact below_more (below_more B1.out H.out.2.2.2 _) H.out.2.2.2 _) H.out.2.2.2 b2; ⟨own_lowerN ow2 (by have := B1.out.size; have := H.out.2.2.2; simp; omega), B, by rw [hm2]; exact HP.out.2.2.1, Nat.le_trans H.out.2.2.2 B.size⟩); clear ow2 b2 hm2; (try clear n1); (try clear k1); (try clear k2)))
  all_goals (
    have eO : oldH S ro = P := by unfold oldH; rw [← HP.out.2.1, ← HP.out.1]
    have HO : Hid (oldH S ro = P) := eO
    clear eO
    cases no
    · have hm := Z.out.2.2.1
      go_wp2_with (refine wpList_append_zeros rfl (.tmp 15) (.const (.int .i64 124)) rfl q a2 m2 d2 P rfl Z.out.1 124 rfl (by omega) (by omega) Z.out.2.2.2 ?_; intro a3 d3 w3 ow3 b3)
      go_ret
      refine ⟨a3, m2 + 124, d3, rfl, ?_, Z.out.2.1.trans b3⟩
      unfold oldL
      rw [HO.out]
      refine own_bin ow3 (by unfold maxLen; omega) ?_
      intro z hz
      rcases List.mem_append.1 hz with hz | hz
      · exact HP.out.2.2.2 z hz
      · rw [(List.mem_replicate.1 hz).2]; unfold Fits8; omega
    · go_wp2
      go_ret
      refine ⟨a2, m2, d2, rfl, ?_, Z.out.2.1⟩
      unfold oldL
      rw [HO.out, if_pos rfl, List.append_nil]
      exact own_bin Z.out.1 (by have := Z.out.2.2.1; unfold maxLen; omega) HP.out.2.2.2)
end Go.Proofs.Ytkegpgmmlmineaa
