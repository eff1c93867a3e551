/- What one call of greet's Info and Old does, and of the document's. -/
import Derived.Test.YtkegpgmmlmineaaGWrites
import Derived.Deep.RegionLaw
namespace Go.Proofs.Ytkegpgmmlmineaa
open Go.RowKit
set_option linter.unusedVariables false
set_option maxRecDepth 4000

theorem below_via {q : Nat} {w X w1 : World} (hX : Below q w X) (hq : q ≤ w.heap.size) (h : Below X.heap.size X w1) : Below q w w1 := hX.trans (h.mono (Nat.le_trans hq hX.size))
theorem below_more {q : Nat} {w X : World} (hX : Below q w X) (hq : q ≤ w.heap.size) (o : Obj) : Below q w (X.alloc o) := hX.alloc (Nat.le_trans hq hX.size) o
theorem flI_fits (ro : Bool) : FitsU (flI ro) := by cases ro <;> (unfold FitsU flI; decide)
def expL (T S : Int) (ro : Bool) : List Value := [.int .u32 T, .int .u64 S, .bool ro]
theorem lit_ws (ws : List Int) (C : Array Value) (hC : C = (kInts .i64 ws).toArray) (n : Nat) (hn : ws.length = n) (hf : (ws.all fun z => (Lit.int .i64 z).wf) = true) (hm : n ≤ 1000) : ∀ (X : World) (g : Nat), X.heap.size = g → NIn .i64 (X.alloc (.cells C 3)) (some ⟨g, 0, none⟩) n ws :=
  fun X g h => nin_lit 3 h hC hn hf hm
theorem lit_vs (vs : List Int) (C : Array Value) (hC : C = (kInts .u64 vs).toArray) (n : Nat) (hn : vs.length = n) (hf : ∀ z ∈ vs, FitsU z) (hm : n ≤ 1000) : ∀ (X : World) (g : Nat), X.heap.size = g → NIn .u64 (X.alloc (.cells C 45)) (some ⟨g, 0, none⟩) n vs :=
  fun X g h => nin_litU 45 h hC hn hf hm

set_option maxHeartbeats 4000000 in
theorem info_of (T S : Int) (ro : Bool) (w : World) (hS : FitsU S) : Calls Try.prog 22 #[.agg #[.int .u32 T, .int .u64 S, .bool ro]] w fun e w' => ∃ a k c, e = .returned (.slice a k c) ∧ BIn w' a k (infoL S ro) ∧ Below w.heap.size w w' := by
  obtain ⟨q, hq⟩ : ∃ q, q = w.heap.size := ⟨_, rfl⟩
  have b0 : Blk (w.alloc (.cells #[.int .u32 T, .int .u64 S, .bool ro] 47)) q (expL T S ro) 47 := Blk.new' hq.symm rfl
  have bw : Below q w (w.alloc (.cells #[.int .u32 T, .int .u64 S, .bool ro] 47)) := (Below.refl _ _).alloc (by omega) _
  have bs : (w.alloc (.cells #[.int .u32 T, .int .u64 S, .bool ro] 47)).heap.size = q + 1 := by simp [hq]
  rw [← hq]
  go_enter Try.func22, Try.ntmps22
  go_upto_region 1 with fail
  rw [← hq]
  generalize hW : World.alloc w _ = W at b0 bw bs ⊢
  have hqw : q ≤ w.heap.size := by omega
  have H : Hid (Blk W q (expL T S ro) 47 ∧ Below q w W ∧ W.heap.size = q + 1 ∧ q ≤ w.heap.size) := ⟨b0, bw, bs, hqw⟩
  have c0 : W.cell? ⟨q, 0, none⟩ = some (.int .u32 T) := b0.cell 0
  have c1 : W.cell? ⟨q, 1, none⟩ = some (.int .u64 S) := b0.cell 1
  have c2 : W.cell? ⟨q, 2, none⟩ = some (.bool ro) := b0.cell 2
  have g0 : ∀ o, (W.alloc o).cell? ⟨q, 0, none⟩ = some (.int .u32 T) := fun o => (b0.alloc o).cell 0
  have g1 : ∀ o, (W.alloc o).cell? ⟨q, 1, none⟩ = some (.int .u64 S) := fun o => (b0.alloc o).cell 1
  have g2 : ∀ o, (W.alloc o).cell? ⟨q, 2, none⟩ = some (.bool ro) := fun o => (b0.alloc o).cell 2
  obtain ⟨F, hF⟩ : ∃ F, F = flI ro := ⟨_, rfl⟩
  have fF : FitsU F := by rw [hF]; exact flI_fits ro
  have cF := fun X => exportFlags_of T S ro X
  rw [← hF] at cF
  have LW := lit_ws [2, 8, 2] #[.int .i64 2, .int .i64 8, .int .i64 2] rfl 3 rfl rfl (by omega)
  have LV := lit_vs [0, S, F] #[.int .u64 0, .int .u64 S, .int .u64 F] rfl 3 rfl (fits3 (by unfold FitsU; omega) hS fF) (by omega)
  have L1 : NIn .i64 (W.alloc (.cells #[.int .i64 2, .int .i64 8, .int .i64 2] 3)).drew (some ⟨W.heap.size, 0, none⟩) 3 [2, 8, 2] := LW W _ rfl
  obtain ⟨P, hP⟩ : ∃ P, P = packL [2, 8, 2] [0, S, F] := ⟨_, rfl⟩
  have hPl := pack_small [2, 8, 2] [0, S, F] (by simp)
  have hPf := packL_fits [2, 8, 2] [0, S, F]
  have cP := fun a b X h1 h2 => pack_of a 3 3 [2, 8, 2] b 3 3 [0, S, F] X h1 h2 (by omega) (by omega)
  rw [← hP] at hPl hPf
  simp only [← hP] at cP
  have HP : Hid (P = packL [2, 8, 2] [0, S, F] ∧ F = flI ro ∧ P.length ≤ 32 ∧ ∀ z ∈ P, Fits8 z) := ⟨hP, hF, hPl, hPf⟩
  have HL : Hid (NIn .i64 (W.alloc (.cells #[.int .i64 2, .int .i64 8, .int .i64 2] 3)).drew (some ⟨W.heap.size, 0, none⟩) 3 [2, 8, 2] ∧ (∀ (X : World) (g : Nat), X.heap.size = g → NIn .i64 (X.alloc (.cells #[.int .i64 2, .int .i64 8, .int .i64 2] 3)) (some ⟨g, 0, none⟩) 3 [2, 8, 2]) ∧ ∀ (X : World) (g : Nat), X.heap.size = g → NIn .u64 (X.alloc (.cells #[.int .u64 0, .int .u64 S, .int .u64 F] 45)) (some ⟨g, 0, none⟩) 3 [0, S, F]) := ⟨L1, LW, LV⟩
  clear hW b0 bw bs hq hF fF LW LV L1 hP hPl hPf hqw
  go_region_law (first
    | (go_simp; go_at_call 34; refine (cF _).mono ?_; rintro e w1 ⟨rfl, b1⟩; have y1 : Blk w1 q (expL T S ro) 47 := Blk.below (by first | exact H.out.1.drew | exact (H.out.1.alloc _).drew) b1 (by have := H.out.2.2.1; simp; omega); have k1 : w1.cell? ⟨q, 1, none⟩ = some (.int .u64 S) := y1.cell 1; have k2 : ∀ o, (w1.alloc o).cell? ⟨q, 1, none⟩ = some (.int .u64 S) := fun o => (y1.alloc o).cell 1; have B1 : Hid (Below q w w1) := below_via (by first | exact H.out.2.1.drew | exact (below_more H.out.2.1 H.out.2.2.2 _).drew) H.out.2.2.2 b1; (try have n1 := HL.out.1.below b1); clear b1 y1)
    | (go_simp; go_at_call 32; refine (cP _ _ _ (by first | exact n1.alloc _ | exact (HL.out.2.1 w1 _ rfl).alloc _ | exact HL.out.2.1 (w1.alloc _) _ (by simp)) (by first | exact HL.out.2.2 w1 _ rfl | exact HL.out.2.2 (w1.alloc _) _ (by simp) | exact (HL.out.2.2 w1 _ rfl).alloc _)).mono ?_; rintro e w2 ⟨a2, m2, d2, rfl, hm2, ow2, b2⟩; have Z : Hid (w2.ownsRow q 5 1 (.slice a2 m2 d2) m2 (u8s P) ∧ Below q w w2 ∧ m2 ≤ 32 ∧ q ≤ w2.heap.size) := (have B : Below q w w2 := below_via (by first | exact below_more B1.out H.out.2.2.2 _ | exact below_more (below_more B1.out H.out.2.2.2 _) H.out.2.2.2 _) H.out.2.2.2 b2; ⟨own_lowerN ow2 (by have := B1.out.size; have := H.out.2.2.2; simp; omega), B, by rw [hm2]; exact HP.out.2.2.1, Nat.le_trans H.out.2.2.2 B.size⟩); clear ow2 b2 hm2; (try clear n1); (try clear k1); (try clear k2)))
  all_goals (
    go_wp2
    go_ret
    refine ⟨a2, m2, d2, rfl, ?_, Z.out.2.1⟩
    unfold infoL
    rw [← HP.out.2.1, ← HP.out.1]
    exact own_bin Z.out.1 (by have := Z.out.2.2.1; unfold maxLen; omega) HP.out.2.2.2)

set_option maxHeartbeats 4000000 in
theorem refInfo_of (T S : Int) (ro : Bool) (w : World) (hS : FitsU S) : Calls Try.prog 23 #[.agg #[.int .u32 T, .int .u64 S, .bool ro]] w fun e w' => ∃ a k c, e = .returned (.slice a k c) ∧ BIn w' a k (infoL S ro) ∧ Below w.heap.size w w' := by
  obtain ⟨q, hq⟩ : ∃ q, q = w.heap.size := ⟨_, rfl⟩
  have b0 : Blk (w.alloc (.cells #[.int .u32 T, .int .u64 S, .bool ro] 47)) q (expL T S ro) 47 := Blk.new' hq.symm rfl
  have bw : Below q w (w.alloc (.cells #[.int .u32 T, .int .u64 S, .bool ro] 47)) := (Below.refl _ _).alloc (by omega) _
  have bs : (w.alloc (.cells #[.int .u32 T, .int .u64 S, .bool ro] 47)).heap.size = q + 1 := by simp [hq]
  rw [← hq]
  go_enter Try.func23, Try.ntmps23
  go_upto_region 1 with fail
  rw [← hq]
  generalize hW : World.alloc w _ = W at b0 bw bs ⊢
  have hqw : q ≤ w.heap.size := by omega
  have H : Hid (Blk W q (expL T S ro) 47 ∧ Below q w W ∧ W.heap.size = q + 1 ∧ q ≤ w.heap.size) := ⟨b0, bw, bs, hqw⟩
  have c0 : W.cell? ⟨q, 0, none⟩ = some (.int .u32 T) := b0.cell 0
  have c1 : W.cell? ⟨q, 1, none⟩ = some (.int .u64 S) := b0.cell 1
  have c2 : W.cell? ⟨q, 2, none⟩ = some (.bool ro) := b0.cell 2
  have g0 : ∀ o, (W.alloc o).cell? ⟨q, 0, none⟩ = some (.int .u32 T) := fun o => (b0.alloc o).cell 0
  have g1 : ∀ o, (W.alloc o).cell? ⟨q, 1, none⟩ = some (.int .u64 S) := fun o => (b0.alloc o).cell 1
  have g2 : ∀ o, (W.alloc o).cell? ⟨q, 2, none⟩ = some (.bool ro) := fun o => (b0.alloc o).cell 2
  obtain ⟨F, hF⟩ : ∃ F, F = flI ro := ⟨_, rfl⟩
  have fF : FitsU F := by rw [hF]; exact flI_fits ro
  have cF := fun X => refLflags_of T S ro X
  rw [← hF] at cF
  have LW := lit_ws [2, 8, 2] #[.int .i64 2, .int .i64 8, .int .i64 2] rfl 3 rfl rfl (by omega)
  have LV := lit_vs [0, S, F] #[.int .u64 0, .int .u64 S, .int .u64 F] rfl 3 rfl (fits3 (by unfold FitsU; omega) hS fF) (by omega)
  have L1 : NIn .i64 (W.alloc (.cells #[.int .i64 2, .int .i64 8, .int .i64 2] 3)).drew (some ⟨W.heap.size, 0, none⟩) 3 [2, 8, 2] := LW W _ rfl
  obtain ⟨P, hP⟩ : ∃ P, P = packL [2, 8, 2] [0, S, F] := ⟨_, rfl⟩
  have hPl := pack_small [2, 8, 2] [0, S, F] (by simp)
  have hPf := packL_fits [2, 8, 2] [0, S, F]
  have cP := fun a b X h1 h2 => refPack_of a 3 3 [2, 8, 2] b 3 3 [0, S, F] X h1 h2 (by omega) (by omega)
  rw [← hP] at hPl hPf
  simp only [← hP] at cP
  have HP : Hid (P = packL [2, 8, 2] [0, S, F] ∧ F = flI ro ∧ P.length ≤ 32 ∧ ∀ z ∈ P, Fits8 z) := ⟨hP, hF, hPl, hPf⟩
  have HL : Hid (NIn .i64 (W.alloc (.cells #[.int .i64 2, .int .i64 8, .int .i64 2] 3)).drew (some ⟨W.heap.size, 0, none⟩) 3 [2, 8, 2] ∧ (∀ (X : World) (g : Nat), X.heap.size = g → NIn .i64 (X.alloc (.cells #[.int .i64 2, .int .i64 8, .int .i64 2] 3)) (some ⟨g, 0, none⟩) 3 [2, 8, 2]) ∧ ∀ (X : World) (g : Nat), X.heap.size = g → NIn .u64 (X.alloc (.cells #[.int .u64 0, .int .u64 S, .int .u64 F] 45)) (some ⟨g, 0, none⟩) 3 [0, S, F]) := ⟨L1, LW, LV⟩
  clear hW b0 bw bs hq hF fF LW LV L1 hP hPl hPf hqw
  go_region_law (first
    | (go_simp; go_at_call 35; refine (cF _).mono ?_; rintro e w1 ⟨rfl, b1⟩; have y1 : Blk w1 q (expL T S ro) 47 := Blk.below (by first | exact H.out.1.drew | exact (H.out.1.alloc _).drew) b1 (by have := H.out.2.2.1; simp; omega); have k1 : w1.cell? ⟨q, 1, none⟩ = some (.int .u64 S) := y1.cell 1; have k2 : ∀ o, (w1.alloc o).cell? ⟨q, 1, none⟩ = some (.int .u64 S) := fun o => (y1.alloc o).cell 1; have B1 : Hid (Below q w w1) := below_via (by first | exact H.out.2.1.drew | exact (below_more H.out.2.1 H.out.2.2.2 _).drew) H.out.2.2.2 b1; (try have n1 := HL.out.1.below b1); clear b1 y1)
    | (go_simp; go_at_call 33; refine (cP _ _ _ (by first | exact n1.alloc _ | exact (HL.out.2.1 w1 _ rfl).alloc _ | exact HL.out.2.1 (w1.alloc _) _ (by simp)) (by first | exact HL.out.2.2 w1 _ rfl | exact HL.out.2.2 (w1.alloc _) _ (by simp) | exact (HL.out.2.2 w1 _ rfl).alloc _)).mono ?_; rintro e w2 ⟨a2, m2, d2, rfl, hm2, ow2, b2⟩; have Z : Hid (w2.ownsRow q 5 1 (.slice a2 m2 d2) m2 (u8s P) ∧ Below q w w2 ∧ m2 ≤ 32 ∧ q ≤ w2.heap.size) := (have B : Below q w w2 := below_via (by first | exact below_more B1.out H.out.2.2.2 _ | exact below_more (below_more B1.out H.out.2.2.2 _) H.out.2.2.2 _) H.out.2.2.2 b2; ⟨own_lowerN ow2 (by have := B1.out.size; have := H.out.2.2.2; simp; omega), B, by rw [hm2]; exact HP.out.2.2.1, Nat.le_trans H.out.2.2.2 B.size⟩); clear ow2 b2 hm2; (try clear n1); (try clear k1); (try clear k2)))
  all_goals (
    go_wp2
    go_ret
    refine ⟨a2, m2, d2, rfl, ?_, Z.out.2.1⟩
    unfold infoL
    rw [← HP.out.2.1, ← HP.out.1]
    exact own_bin Z.out.1 (by have := Z.out.2.2.1; unfold maxLen; omega) HP.out.2.2.2)
end Go.Proofs.Ytkegpgmmlmineaa
