/- What one call of mixed does: the eight numbers behind one more block; nothing that was there is touched. -/
import Derived.Test.YtpliokkmiijieaaDoorSched
import Derived.Deep.Cut
namespace Go.Proofs.YtpliokkmiijieaaDoor
open Go.RowKit
set_option linter.unusedVariables false
set_option maxRecDepth 4000

/-- The table of the rounds' numbers lies where the program's text lays it. -/
def KIn (w : World) : Prop := ∀ i, i < 64 → w.cell? ⟨1, i, none⟩ = some (.int .u32 (roundK.getD i 0))
theorem old_block {w : World} {a : Addr} {v : Value} (h : w.cell? a = some v) : a.block < w.heap.size := by
  rcases Nat.lt_or_ge a.block w.heap.size with h' | h'
  · exact h'
  · simp [World.cell?, Array.getElem?_eq_none h'] at h
theorem KIn.below {w w' : World} {B : Nat} (h : KIn w) (hb : Below B w w') (hB : 1 < B) : KIn w' := fun i hi => by
  rw [hb.cell hB]; exact h i hi
theorem KIn.lt {w : World} (h : KIn w) : 1 < w.heap.size := old_block (h 0 (by omega))
theorem Tryd.info_a64 : (Tryd.prog.info? 80).map (·.size) = some 64 := by kernel_rfl
theorem Tryd.info_a8 : (Tryd.prog.info? 98).map (·.size) = some 8 := by kernel_rfl

theorem cells8 {w : World} {g : Nat} {t : TypeId} {a b c d e f i h : Int} (B : Blk w g (u32s [a, b, c, d, e, f, i, h]) t) :
    w.cell? ⟨g, 0, none⟩ = some (.int .u32 a) ∧ w.cell? ⟨g, 1, none⟩ = some (.int .u32 b) ∧ w.cell? ⟨g, 2, none⟩ = some (.int .u32 c) ∧ w.cell? ⟨g, 3, none⟩ = some (.int .u32 d) ∧
    w.cell? ⟨g, 4, none⟩ = some (.int .u32 e) ∧ w.cell? ⟨g, 5, none⟩ = some (.int .u32 f) ∧ w.cell? ⟨g, 6, none⟩ = some (.int .u32 i) ∧ w.cell? ⟨g, 7, none⟩ = some (.int .u32 h) :=
  ⟨B.cell 0, B.cell 1, B.cell 2, B.cell 3, B.cell 4, B.cell 5, B.cell 6, B.cell 7⟩
theorem mixed_rel {w wr W w' : World} {m : Nat} {S Z W64 Y : List Value} {t0 t2 t3 t4 : TypeId} (b0 : Blk wr w.heap.size S t0) (b2 : Blk wr (w.heap.size + 1 + 1) Z t2) (b3 : Blk wr m W64 t3) (b4 : Blk wr (m + 1) Y t4) (hbel : Below w.heap.size w wr)
    (hm : w.heap.size + 3 ≤ m) (bel : Below W.heap.size W w') (hW : W.heap = wr.heap := by rfl) (hW1 : W.os = wr.os := by rfl) (hW2 : W.tape = wr.tape := by rfl) (hW3 : W.output = wr.output := by rfl) :
    Blk w' w.heap.size S t0 ∧ Blk w' (w.heap.size + 1 + 1) Z t2 ∧ Blk w' m W64 t3 ∧ Blk w' (m + 1) Y t4 ∧ Below w.heap.size w w' := by
  have hlt := b4.lt
  have bw : Below wr.heap.size wr w' := ⟨bel.os.trans hW1, bel.tape.trans hW2, bel.output.trans hW3, by have := bel.size; rw [hW] at this; exact this, fun k hk => by rw [bel.block k (by rw [hW]; exact hk), hW]⟩
  exact ⟨b0.below bw b0.lt, b2.below bw b2.lt, b3.below bw b3.lt, b4.below bw b4.lt, hbel.trans (bw.mono (by omega))⟩
theorem mixed_next {w w' : World} {m : Nat} {S Z W64 : List Value} {L : List Int} {y0 y1 y2 y3 y4 y5 y6 y7 z0 z1 z2 z3 z4 z5 z6 z7 : Int} {t0 t2 t3 t4 : TypeId}
    (R : Blk w' w.heap.size S t0 ∧ Blk w' (w.heap.size + 1 + 1) Z t2 ∧ Blk w' m W64 t3 ∧ Blk w' (m + 1) (u32s [y0, y1, y2, y3, y4, y5, y6, y7]) t4 ∧ Below w.heap.size w w') (hm : w.heap.size + 3 ≤ m) (hL : L = [z0, z1, z2, z3, z4, z5, z6, z7]) :
    let V := (((((((w'.setCell ⟨m + 1, 0, none⟩ (.int .u32 z0)).setCell ⟨m + 1, 1, none⟩ (.int .u32 z1)).setCell ⟨m + 1, 2, none⟩ (.int .u32 z2)).setCell ⟨m + 1, 3, none⟩ (.int .u32 z3)).setCell ⟨m + 1, 4, none⟩ (.int .u32 z4)).setCell ⟨m + 1, 5, none⟩ (.int .u32 z5)).setCell ⟨m + 1, 6, none⟩ (.int .u32 z6)).setCell ⟨m + 1, 7, none⟩ (.int .u32 z7)
    Blk V w.heap.size S t0 ∧ Blk V (w.heap.size + 1 + 1) Z t2 ∧ Blk V m W64 t3 ∧ Blk V (m + 1) (u32s L) t4 ∧ Below w.heap.size w V := by
  intro V
  subst hL
  obtain ⟨r0, r2, r3, r4, rb⟩ := R
  have ne0 : w.heap.size ≠ m + 1 := by omega
  have ne2 : w.heap.size + 1 + 1 ≠ m + 1 := by omega
  have ne3 : m ≠ m + 1 := by omega
  have le : w.heap.size ≤ m + 1 := by omega
  refine ⟨?_, ?_, ?_, ?_, ?_⟩
  · exact (((((((r0.set_other ne0 _).set_other ne0 _).set_other ne0 _).set_other ne0 _).set_other ne0 _).set_other ne0 _).set_other ne0 _).set_other ne0 _
  · exact (((((((r2.set_other ne2 _).set_other ne2 _).set_other ne2 _).set_other ne2 _).set_other ne2 _).set_other ne2 _).set_other ne2 _).set_other ne2 _
  · exact (((((((r3.set_other ne3 _).set_other ne3 _).set_other ne3 _).set_other ne3 _).set_other ne3 _).set_other ne3 _).set_other ne3 _).set_other ne3 _
  · exact (((((((r4.set 0 _).set 1 _).set 2 _).set 3 _).set 4 _).set 5 _).set 6 _).set 7 _
  · exact (((((((rb.setCell le _).setCell le _).setCell le _).setCell le _).setCell le _).setCell le _).setCell le _).setCell le _
theorem add_next {w wr : World} {m j : Nat} {S R : List Int} {Z : List Value} {v : Int} {t0 t2 t4 : TypeId} (b0 : Blk wr w.heap.size (u32s S) t0) (b2 : Blk wr (w.heap.size + 1 + 1) Z t2) (b4 : Blk wr (m + 1) (u32s (addN S R j)) t4) (hbel : Below w.heap.size w wr)
    (hm : w.heap.size + 3 ≤ m) (hv : v = ((addN S R j).getD j 0 + S.getD j 0) % 4294967296) :
    Blk (wr.setCell ⟨m + 1, j, none⟩ (.int .u32 v)).drew w.heap.size (u32s S) t0 ∧ Blk (wr.setCell ⟨m + 1, j, none⟩ (.int .u32 v)).drew (w.heap.size + 1 + 1) Z t2 ∧
    Blk (wr.setCell ⟨m + 1, j, none⟩ (.int .u32 v)).drew (m + 1) (u32s (addN S R (j + 1))) t4 ∧ Below w.heap.size w (wr.setCell ⟨m + 1, j, none⟩ (.int .u32 v)).drew := by
  subst hv
  refine ⟨(b0.set_other (by simp; omega) _).drew, (b2.set_other (by simp; omega) _).drew, ?_, (hbel.setCell (by simp; omega) _).drew⟩
  have := b4.set j (.int .u32 (((addN S R j).getD j 0 + S.getD j 0) % 4294967296))
  have e : (u32s (addN S R j)).set j (.int .u32 (((addN S R j).getD j 0 + S.getD j 0) % 4294967296)) = u32s (addN S R (j + 1)) := by simp [u32s, addN, List.map_set]
  rw [e] at this
  exact this.drew
theorem addN_zero (S R : List Int) : addN S R 0 = R := rfl
theorem mixed_pre {S B : List Int} {w w1 : World} {C D E : Array Value} (hC : C = (u8s B).toArray) (hD : D = (u32s S).toArray) (hS : S.length = 8)
    (bel : Below (((w.alloc (.cells D 98)).alloc (.cells C 80)).alloc (.cells E 98)).heap.size (((w.alloc (.cells D 98)).alloc (.cells C 80)).alloc (.cells E 98)) w1) (hE : E = (u32s (List.replicate 8 0)).toArray := by kernel_rfl) :
    Blk ((w1.alloc (.cells (u32s (List.replicate 64 0)).toArray 107)).setCells w1.heap.size 0 (u32s (schedN B 64))) w.heap.size (u32s S) 98 ∧
    Blk ((w1.alloc (.cells (u32s (List.replicate 64 0)).toArray 107)).setCells w1.heap.size 0 (u32s (schedN B 64))) (w.heap.size + 2) (u32s (List.replicate 8 0)) 98 ∧
    Blk ((w1.alloc (.cells (u32s (List.replicate 64 0)).toArray 107)).setCells w1.heap.size 0 (u32s (schedN B 64))) w1.heap.size (u32s (schedN B 64)) 107 ∧
    Below w.heap.size w ((w1.alloc (.cells (u32s (List.replicate 64 0)).toArray 107)).setCells w1.heap.size 0 (u32s (schedN B 64))) ∧ w.heap.size + 3 ≤ w1.heap.size := by
  have hsz : w.heap.size + 3 ≤ w1.heap.size := by have := bel.size; simp at this; omega
  have a0 : Blk w1 w.heap.size (u32s S) 98 := (((Blk.new' rfl hD).alloc _).alloc _).below bel (by simp; omega)
  have a2 : Blk w1 (w.heap.size + 2) (u32s (List.replicate 8 0)) 98 := (Blk.new' (by simp) hE).below bel (by simp)
  have l : (w.alloc (.cells D 98)).heap.size = w.heap.size + 1 := by simp
  have b0 : Below w.heap.size w w1 := ((((Below.refl _ _).alloc (by omega) _).alloc (by simp) _).alloc (by simp; omega) _).trans (bel.mono (by simp; omega))
  refine ⟨(a0.alloc _).setCells_other (by omega) _ _, (a2.alloc _).setCells_other (by omega) _ _, (Blk.new w1 _ _).setAll (by simp [u32s_length, schedN_length]), below_setCells (by omega) _ _ _ (b0.alloc (by omega) _), hsz⟩

theorem round_step {w wr W : World} {m : Nat} {S Z W64 : List Value} {y0 y1 y2 y3 y4 y5 y6 y7 x : Int} {t0 t2 t3 t4 : TypeId} (b0 : Blk wr w.heap.size S t0) (b2 : Blk wr (w.heap.size + 1 + 1) Z t2) (b3 : Blk wr m W64 t3) (b4 : Blk wr (m + 1) (u32s [y0, y1, y2, y3, y4, y5, y6, y7]) t4) (hbel : Below w.heap.size w wr)
    (hm : w.heap.size + 3 ≤ m) (hf : ∀ z ∈ [y0, y1, y2, y3, y4, y5, y6, y7], Fits32 z) (hW : W.heap = wr.heap) (hW1 : W.os = wr.os) (hW2 : W.tape = wr.tape) (hW3 : W.output = wr.output) :
    Calls Tryd.prog 61 #[.agg #[.int .u32 y0, .int .u32 y1, .int .u32 y2, .int .u32 y3, .int .u32 y4, .int .u32 y5, .int .u32 y6, .int .u32 y7], .int .u32 x] W fun en w' => ∃ z0 z1 z2 z3 z4 z5 z6 z7 : Int,
      en = .returned (.agg #[.int .u32 z0, .int .u32 z1, .int .u32 z2, .int .u32 z3, .int .u32 z4, .int .u32 z5, .int .u32 z6, .int .u32 z7]) ∧ Hid (roundI [y0, y1, y2, y3, y4, y5, y6, y7] x = [z0, z1, z2, z3, z4, z5, z6, z7]) ∧
      Hid (Blk w' w.heap.size S t0 ∧ Blk w' (w.heap.size + 1 + 1) Z t2 ∧ Blk w' m W64 t3 ∧ Blk w' (m + 1) (u32s [y0, y1, y2, y3, y4, y5, y6, y7]) t4 ∧ Below w.heap.size w w') ∧
      w'.cell? ⟨m + 1, 0, none⟩ = some (.int .u32 y0) ∧ w'.cell? ⟨m + 1, 1, none⟩ = some (.int .u32 y1) ∧ w'.cell? ⟨m + 1, 2, none⟩ = some (.int .u32 y2) ∧ w'.cell? ⟨m + 1, 3, none⟩ = some (.int .u32 y3) ∧
      w'.cell? ⟨m + 1, 4, none⟩ = some (.int .u32 y4) ∧ w'.cell? ⟨m + 1, 5, none⟩ = some (.int .u32 y5) ∧ w'.cell? ⟨m + 1, 6, none⟩ = some (.int .u32 y6) ∧ w'.cell? ⟨m + 1, 7, none⟩ = some (.int .u32 y7) ∧ ∀ i, w'.frozen? ⟨m + 1, i, none⟩ = false := by
  refine (round_of [y0, y1, y2, y3, y4, y5, y6, y7] x W rfl hf).mono ?_
  rintro e w' ⟨rfl, bel⟩
  obtain ⟨z0, z1, z2, z3, z4, z5, z6, z7, hZ⟩ := len8 (roundI_length x (S := [y0, y1, y2, y3, y4, y5, y6, y7]) rfl)
  have R := mixed_rel b0 b2 b3 b4 hbel hm bel hW hW1 hW2 hW3
  have R4 := cells8 R.2.2.2.1
  exact ⟨z0, z1, z2, z3, z4, z5, z6, z7, by rw [hZ]; rfl, hZ, R, R4.1, R4.2.1, R4.2.2.1, R4.2.2.2.1, R4.2.2.2.2.1, R4.2.2.2.2.2.1, R4.2.2.2.2.2.2.1, R4.2.2.2.2.2.2.2, R.2.2.2.1.frozen⟩

set_option maxHeartbeats 1000000 in
theorem mixed_of (S B : List Int) (w : World) (hS : S.length = 8) (hSf : ∀ z ∈ S, Fits32 z) (hB : B.length = 64) (hBf : ∀ z ∈ B, Fits8 z) (hK : KIn w) :
    Calls Tryd.prog 54 #[.agg (u32s S).toArray, .agg (u8s B).toArray] w fun en w' =>
      en = .returned (.agg (u32s (mixI S B)).toArray) ∧ Below w.heap.size w w' := by
  obtain ⟨C, hC⟩ : ∃ C, C = (u8s B).toArray := ⟨_, rfl⟩
  obtain ⟨D, hD⟩ : ∃ D, D = (u32s S).toArray := ⟨_, rfl⟩
  rw [← hC, ← hD]
  have H : Hid ((B.length = 64 ∧ (∀ z ∈ B, Fits8 z) ∧ C = (u8s B).toArray) ∧ (S.length = 8 ∧ (∀ z ∈ S, Fits32 z) ∧ D = (u32s S).toArray) ∧ KIn w) := ⟨⟨hB, hBf, hC⟩, ⟨hS, hSf, hD⟩, hK⟩
  clear hB hBf hC hS hSf hD hK
  go_enter Tryd.func54, Tryd.ntmps54
  go_upto_region 2 with (first
    | (refine wpList_load_mid rfl 80 (.tmp 3) rfl (w.heap.size + 1) 0 rfl (u8s B) _ ((Blk.new' (by simp) H.out.1.2.2).alloc _).whole Tryd.underlying80 rfl (by rw [u8s_length, H.out.1.1]; exact Tryd.info_a64) ?_)
    | (go_at_call 60; refine (sched_of B _ H.out.1.1 H.out.1.2.1).mono ?_; rintro e w1 ⟨rfl, bel1⟩; have pre := mixed_pre H.out.1.2.2 H.out.2.1.2.2 H.out.2.1.1 bel1; clear bel1)
    | (refine wpList_store_mid rfl 107 (.tmp 5) (.tmp 10) rfl w1.heap.size 0 (u32s (schedN B 64)).toArray rfl rfl ((Blk.new' (L := u32s (List.replicate 64 0)) rfl (by kernel_rfl)).there 0 _ (by simp [u32s_length, schedN_length])) (by simp only [List.size_toArray, u32s_length, schedN_length]; exact Tryd.info_w64) (all_oneCell_toArray (u32s_one _)) ?_))
  generalize hV : World.setCells _ _ _ _ = V
  have pv : Blk V w.heap.size (u32s S) 98 ∧ Blk V (w.heap.size + 2) (u32s (List.replicate 8 0)) 98 ∧ Blk V w1.heap.size (u32s (schedN B 64)) 107 ∧ Below w.heap.size w V ∧ w.heap.size + 3 ≤ w1.heap.size ∧ V.heap.size = w1.heap.size + 1 := by
    rw [← hV]
    exact ⟨pre.1, pre.2.1, pre.2.2.1, pre.2.2.2.1, pre.2.2.2.2, by rw [size_setCells']; simp⟩
  clear pre hV
  obtain ⟨m, hm⟩ : ∃ m, m = w1.heap.size := ⟨_, rfl⟩
  rw [← hm] at pv ⊢
  clear hm
  obtain ⟨p0, p2, p3, pb, pm, ps⟩ := pv
  have P0 : Hid (Blk V w.heap.size (u32s S) 98) := p0
  go_upto_region 3 with (first
    | (refine wpList_load_mid rfl 98 (.tmp 2) rfl w.heap.size 0 rfl (u32s S) _ P0.out.whole Tryd.underlying98 rfl (by rw [u32s_length, H.out.2.1.1]; exact Tryd.info_a8) ?_)
    | (refine wpList_store_mid rfl 98 (.tmp 6) (.tmp 11) rfl (m + 1) 0 (u32s S).toArray rfl rfl ((Blk.new' (L := u32s (List.replicate 8 0)) ps (by kernel_rfl)).there 0 _ (by simp [u32s_length, H.out.2.1.1])) (by simp only [List.size_toArray, u32s_length, H.out.2.1.1]; exact Tryd.info_a8) (all_oneCell_toArray (u32s_one _)) ?_))
  generalize hU : World.setCells _ _ _ _ = U
  have pu : Blk U w.heap.size (u32s S) 98 ∧ Blk U (w.heap.size + 1 + 1) (u32s (List.replicate 8 0)) 98 ∧ Blk U m (u32s (schedN B 64)) 107 ∧ Blk U (m + 1) (u32s S) 98 ∧ Below w.heap.size w U := by
    rw [← hU]
    refine ⟨(p0.alloc _).setCells_other (by omega) _ _, (p2.alloc _).setCells_other (by omega) _ _, (p3.alloc _).setCells_other (by omega) _ _, ?_, below_setCells (by omega) _ _ _ (pb.alloc (by omega) _)⟩
    exact (Blk.new' (L := u32s (List.replicate 8 0)) ps (by kernel_rfl)).setAll (by simp [u32s_length, H.out.2.1.1])
  clear hU P0 p0 p2 p3 pb ps
  have HM : Hid (w.heap.size + 3 ≤ m) := pm
  clear pm
  go_wp2
  go_loopw [12] (fun i wr => ∃ k : Nat, k ≤ 64 ∧ i = .int .i64 k ∧ Blk wr w.heap.size (u32s S) 98 ∧ Blk wr (w.heap.size + 1 + 1) (u32s (List.replicate 8 0)) 98 ∧ Blk wr m (u32s (schedN B 64)) 107 ∧ Blk wr (m + 1) (u32s (roundsN S (schedN B 64) k)) 98 ∧ Below w.heap.size w wr)
    (fun i _ => 64 - (intOf i).toNat)
  case atStart => exact ⟨0, by omega, rfl, pu.1, pu.2.1, pu.2.2.1, pu.2.2.2.1, pu.2.2.2.2⟩
  case round =>
    clear pu
    obtain ⟨k, hk, rfl, b0, b2, b3, b4, hbel⟩ := hrel
    by_cases hlt : k < 64
    · have hlt' : (k : Int) < 64 := by omega
      have cK := (H.out.2.2.below hbel H.out.2.2.lt) k hlt
      have cW := wordAt b3 k (by rw [schedN_length]; omega)
      obtain ⟨x1, e1⟩ : ∃ p, p = roundK.getD k 0 := ⟨_, rfl⟩
      obtain ⟨x2, e2⟩ : ∃ p, p = (schedN B 64).getD k 0 := ⟨_, rfl⟩
      rw [← e1] at cK; rw [← e2] at cW
      obtain ⟨y0, y1, y2, y3, y4, y5, y6, y7, hY⟩ := len8 (roundsN_length (schedN B 64) k H.out.2.1.1)
      have HF : Hid (∀ z ∈ [y0, y1, y2, y3, y4, y5, y6, y7], Fits32 z) := by rw [← hY]; exact roundsN_fits _ _ H.out.2.1.1 H.out.2.1.2.1
      have E : Hid (x1 = roundK.getD k 0 ∧ x2 = (schedN B 64).getD k 0 ∧ roundsN S (schedN B 64) k = [y0, y1, y2, y3, y4, y5, y6, y7]) := ⟨e1, e2, hY⟩
      rw [hY] at b4
      clear e1 e2 hY
      have c4 := cells8 b4
      obtain ⟨q0, q1, q2, q3, q4, q5, q6, q7⟩ := c4
      go_wp2
      go_region_with ((go_at_call 61; refine (round_step (W := wr.drew) b0 b2 b3 b4 hbel HM.out HF.out rfl rfl rfl rfl).mono ?_; rintro e w' ⟨z0, z1, z2, z3, z4, z5, z6, z7, rfl, HZ, R, r0, r1, r2, r3, r4, r5, r6, r7, rz⟩))
      all_goals
        go_wp2
        go_roundw
        case rel =>
          refine ⟨k + 1, by omega, by go_num, mixed_next R.out HM.out ?_⟩
          show roundI (roundsN S (schedN B 64) k) ((roundK.getD k 0 + (schedN B 64).getD k 0) % 4294967296) = _
          rw [← E.out.1, ← E.out.2.1, E.out.2.2, ← IntKind.wrap_u32']
          exact HZ.out
        case measure => simp [intOf]; omega
    · obtain ⟨R64, hR⟩ : ∃ R, R = roundsN S (schedN B 64) k := ⟨_, rfl⟩
      rw [← hR] at b4
      have HR : Hid (R64 = roundsN S (schedN B 64) 64) := by have : k = 64 := by omega
                                                             rw [this] at hR
                                                             exact hR
      have hge : (64 : Int) ≤ k := by omega
      clear hR
      have HL : Hid (R64.length = 8) := by rw [HR.out]; exact roundsN_length _ _ H.out.2.1.1
      go_wp2
      go_loopw [25] (fun i wr => ∃ k : Nat, k ≤ 8 ∧ i = .int .i64 k ∧ Blk wr w.heap.size (u32s S) 98 ∧ Blk wr (w.heap.size + 1 + 1) (u32s (List.replicate 8 0)) 98 ∧ Blk wr (m + 1) (u32s (addN S R64 k)) 98 ∧ Below w.heap.size w wr)
        (fun i _ => 8 - (intOf i).toNat)
      case atStart => exact ⟨0, by omega, rfl, b0, b2, (addN_zero S R64).symm ▸ b4, hbel⟩
      case round =>
        clear b0 b2 b3 b4 hbel
        obtain ⟨j, hj, rfl, b0, b2, b4, hbel⟩ := hrel
        by_cases hjt : j < 8
        · have hjt' : (j : Int) < 8 := by omega
          have cS := wordAt b0 j (by rw [H.out.2.1.1]; omega)
          have cA := wordAt b4 j (by rw [addN_length, HL.out]; omega)
          have fA := b4.frozen j
          obtain ⟨x1, e1⟩ : ∃ p, p = S.getD j 0 := ⟨_, rfl⟩
          obtain ⟨x2, e2⟩ : ∃ p, p = (addN S R64 j).getD j 0 := ⟨_, rfl⟩
          rw [← e1] at cS; rw [← e2] at cA
          have E : Hid (x1 = S.getD j 0 ∧ x2 = (addN S R64 j).getD j 0) := ⟨e1, e2⟩
          clear e1 e2
          go_wp2
          go_region
          all_goals go_wp2
          go_roundw
          case rel => exact ⟨j + 1, by omega, by go_num, add_next b0 b2 b4 hbel HM.out (by rw [E.out.1, E.out.2])⟩
          case measure => simp [intOf]; omega
        · obtain ⟨A8, hA⟩ : ∃ A, A = addN S R64 j := ⟨_, rfl⟩
          rw [← hA] at b4
          have HA : Hid (A8 = mixI S B ∧ A8.length = 8) := by
            have : j = 8 := by omega
            refine ⟨?_, by rw [hA, addN_length, HL.out]⟩
            rw [hA, this, HR.out]; rfl
          have hge8 : (8 : Int) ≤ j := by omega
          clear hA
          have hin : (Tryd.prog.info? 98).map (·.size) = some (u32s A8).length := by rw [u32s_length, HA.out.2]; exact Tryd.info_a8
          have HT : Hid (wr.there (w.heap.size + 1 + 1) 0 (u32s A8).toArray.size) := b2.there 0 _ (by simp [u32s_length, HA.out.2])
          go_wp2_with (first
            | (refine wpList_load_mid rfl 98 (.tmp 6) rfl (m + 1) 0 rfl _ _ b4.whole Tryd.underlying98 rfl hin ?_)
            | (refine wpList_store_mid rfl 98 (.tmp 4) (.tmp 37) rfl (w.heap.size + 1 + 1) 0 (u32s A8).toArray rfl rfl HT.out (by simpa using hin) (all_oneCell_toArray (u32s_one _)) ?_))
          have b9 := b2.setAll (vs := u32s A8) (by simp [u32s_length, HA.out.2])
          refine bodyPost_ret (v := .agg (u32s A8).toArray) (results_cell_one (p := 4) (ty := 98) rfl _ _ (w.heap.size + 1 + 1) _ _ _ rfl b9 Tryd.underlying98 rfl hin) rfl ⟨by rw [HA.out.1], ?_⟩
          exact below_setCells (by omega) _ _ _ hbel
end Go.Proofs.YtpliokkmiijieaaDoor
