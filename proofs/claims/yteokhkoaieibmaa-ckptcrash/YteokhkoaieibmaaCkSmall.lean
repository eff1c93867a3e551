/- What one call of ckpt's inLog, rises and place does. -/
import Derived.Test.YteokhkoaieibmaaCkIn
import Derived.Test.YteokhkoaieibmaaZRight
namespace Go.Proofs.Yteokhkoaieibmaa
open Go.RowKit
set_option linter.unusedVariables false
set_option maxRecDepth 4000

set_option maxHeartbeats 1000000 in
theorem kinLog_of (s : Sh) (z b : Int) (w : World) : Calls Try.prog 63 #[.agg (shL s).toArray, .agg #[.int .i64 z, .int .i64 b]] w fun e w' => e = .returned (.bool (decide (2 ≤ z ∧ z < s.z ∧ 0 ≤ b ∧ b < s.zb))) ∧ Below w.heap.size w w' := by
  obtain ⟨sz, szb, sb, sr⟩ := s
  dsimp only
  obtain ⟨B, hB⟩ : ∃ B, B = decide (2 ≤ z ∧ z < sz ∧ 0 ≤ b ∧ b < szb) := ⟨_, rfl⟩
  rw [← hB]
  have bw : Hid (∀ o o', Below w.heap.size w ((w.alloc o).alloc o')) := fun o o' => ((Below.refl _ _).alloc (Nat.le_refl _) o).alloc (by simp) o'
  simp only [shL]
  by_cases h1 : 2 ≤ z
  · by_cases h2 : z < sz
    · by_cases h3 : 0 ≤ b
      · have hf : B = decide (b < szb) := by rw [hB]; simp [h1, h2, h3]
        clear hB
        subst hf
        go_enter Try.func63, Try.ntmps63
        go_wp2
        go_ret
        exact ⟨rfl, bw.out _ _⟩
      · have hf : B = false := by rw [hB]; simp [h3]
        clear hB
        subst hf
        have h3' : b < 0 := by omega
        clear h3
        go_enter Try.func63, Try.ntmps63
        go_wp2
        go_ret
        exact ⟨rfl, bw.out _ _⟩
    · have hf : B = false := by rw [hB]; simp [h2]
      clear hB
      subst hf
      have h2' : sz ≤ z := by omega
      clear h2
      go_enter Try.func63, Try.ntmps63
      go_wp2
      go_ret
      exact ⟨rfl, bw.out _ _⟩
  · have hf : B = false := by rw [hB]; simp [h1]
    clear hB
    subst hf
    have h1' : z < 2 := by omega
    clear h1
    go_enter Try.func63, Try.ntmps63
    go_wp2
    go_ret
    exact ⟨rfl, bw.out _ _⟩
set_option maxHeartbeats 1000000 in
theorem krises_of (p q : Pl) (w : World) : Calls Try.prog 64 #[.agg (plL p).toArray, .agg (plL q).toArray] w fun e w' => e = .returned (.bool (ltP p.1 q.1)) ∧ Below w.heap.size w w' := by
  obtain ⟨⟨t, b⟩, z, y⟩ := p
  obtain ⟨⟨t', b'⟩, z', y'⟩ := q
  dsimp only
  obtain ⟨B, hB⟩ : ∃ B, B = ltP (t, b) (t', b') := ⟨_, rfl⟩
  rw [← hB]
  have bw : Hid (∀ o o', Below w.heap.size w ((w.alloc o).alloc o')) := fun o o' => ((Below.refl _ _).alloc (Nat.le_refl _) o).alloc (by simp) o'
  simp only [plL]
  by_cases h1 : t = t'
  · subst h1
    have hf : B = decide (b < b') := by rw [hB]; simp [ltP]
    clear hB
    subst hf
    go_enter Try.func64, Try.ntmps64
    go_wp2
    go_ret
    exact ⟨rfl, bw.out _ _⟩
  · have hf : B = decide (t < t') := by rw [hB]; simp [ltP, h1]
    clear hB
    subst hf
    have h1' : (t != t') = true := by simp [h1]
    go_enter Try.func64, Try.ntmps64
    go_wp2
    go_ret
    exact ⟨rfl, bw.out _ _⟩
theorem Try.info_place : (Try.prog.info? 83).map (·.size) = some 4 := by kernel_rfl
def pl0 : Pl := ((0, 0), (0, 0))
set_option maxHeartbeats 1000000 in
theorem kplace_of (b c : Nat) (x : Pl) (w : World) (c0 : w.cell? ⟨b, 0, none⟩ = some (.int .u64 x.1.1)) (c1 : w.cell? ⟨b, 1, none⟩ = some (.int .u64 x.1.2)) (c2 : w.cell? ⟨b, 2, none⟩ = some (.int .u64 x.2.1)) (c3 : w.cell? ⟨b, 3, none⟩ = some (.int .u64 x.2.2)) (hr : Fit2 x) :
    Calls Try.prog 72 #[.slice (some ⟨b, 0, none⟩) 4 c] w fun e w' => e = .returned (.agg #[.int .u32 x.1.1, .int .u64 x.1.2, .int .i64 x.2.1, .int .i64 x.2.2]) ∧ Below w.heap.size w w' := by
  obtain ⟨q, hq⟩ : ∃ q, q = w.heap.size := ⟨_, rfl⟩
  obtain ⟨⟨t, bb⟩, z, y⟩ := x
  obtain ⟨⟨⟨f0, f1⟩, _⟩, ⟨k0, k1⟩, ⟨s0, s1⟩⟩ := hr
  dsimp only at c0 c1 c2 c3 f0 f1 k0 k1 s0 s1 ⊢
  have u0 : IntKind.u32.wrap t = t := by rw [IntKind.wrap_u32]; omega
  have u2 : IntKind.i64.wrap z = z := by rw [IntKind.wrap_i64]; omega
  have u3 : IntKind.i64.wrap y = y := by rw [IntKind.wrap_i64]; omega
  clear f0 f1 k0 k1 s0 s1
  have b0 : Blk (w.alloc (.cells #[.int .u32 0, .int .u64 0, .int .i64 0, .int .i64 0] 83)) q (plL pl0) 83 := Blk.new' hq.symm rfl
  have bw : Below q w (w.alloc (.cells #[.int .u32 0, .int .u64 0, .int .i64 0, .int .i64 0] 83)) := (Below.refl _ _).alloc (by omega) _
  have HQ : Hid (q = w.heap.size) := hq
  rw [← hq]
  go_enter Try.func72, Try.ntmps72
  go_upto_region 1 with fail
  rw [← hq]
  have bne : b ≠ q := by have := old_block c0; have := HQ.out; simp only at *; omega
  have c0' := (bw.cell (by rw [hq]; exact old_block c0)).trans c0
  have c1' := (bw.cell (by rw [hq]; exact old_block c1)).trans c1
  have c2' := (bw.cell (by rw [hq]; exact old_block c2)).trans c2
  have c3' := (bw.cell (by rw [hq]; exact old_block c3)).trans c3
  clear c0 c1 c2 c3 hq
  generalize hW : World.alloc w _ = W at c0' c1' c2' c3' b0 bw ⊢
  clear hW
  have e0 : W.cell? ⟨q, 0, none⟩ = some (.int .u32 0) := b0.cell 0
  have e1 : W.cell? ⟨q, 1, none⟩ = some (.int .u64 0) := b0.cell 1
  have e2 : W.cell? ⟨q, 2, none⟩ = some (.int .i64 0) := b0.cell 2
  have e3 : W.cell? ⟨q, 3, none⟩ = some (.int .i64 0) := b0.cell 3
  have z0 := b0.frozen 0
  have z1 := b0.frozen 1
  have z2 := b0.frozen 2
  have z3 := b0.frozen 3
  have qne : q ≠ b := fun e => bne e.symm
  have HB : Hid (Blk W q (plL pl0) 83 ∧ Below q w W) := ⟨b0, bw⟩
  clear b0 bw
  go_wp2
  go_region
  go_wp2
  have b3 : Blk ((((W.setCell ⟨q, 0, none⟩ (.int .u32 t)).setCell ⟨q, 1, none⟩ (.int .u64 bb)).setCell ⟨q, 2, none⟩ (.int .i64 z)).setCell ⟨q, 3, none⟩ (.int .i64 y)).drew q (plL ((t, bb), (z, y))) 83 := (HB.out.1.setAll (vs := plL ((t, bb), (z, y))) (by rfl)).drew
  exact bodyPost_ret (v := .agg (plL ((t, bb), (z, y))).toArray) (results_cell_one (p := 2) (ty := 83) rfl _ _ q _ _ _ rfl b3 Try.underlying83 rfl Try.info_place) rfl ⟨rfl, (((((HB.out.2.setCell (Nat.le_refl _) _).setCell (Nat.le_refl _) _).setCell (Nat.le_refl _) _).setCell (Nat.le_refl _) _)).drew⟩
end Go.Proofs.Yteokhkoaieibmaa
