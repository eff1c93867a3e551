/- P26 -/
import Derived.Test.YtcdnjeiamihhbabGreatP25
set_option linter.unusedVariables false
set_option maxRecDepth 4000
namespace Go.Proofs.YtcdnjeiamihhbabGreat
open Go.RowKit
def noRecord : ByteArray := ⟨#[114, 101, 99, 58, 32, 116, 104, 101, 32, 98, 108, 111, 99, 107, 32, 105, 115, 32, 110, 111, 32, 114, 101, 99, 111, 114, 100]⟩
def RCTook (g : Nat) (a : Option Addr) (n c : Nat) (xs ws : List Int) (w : World) (e : Ending) (w' : World) : Prop :=
 (offL ws ≤ n ∧ ∃ A k C w2, e = .returned (.slice A k C) ∧ Below w.heap.size w w2 ∧ w' = w2.setCell ⟨g, 0, none⟩ (cleftV a n c (offL ws)) ∧ w2.ownsRow w.heap.size 36 1 (.slice A k C) k (kInts .u64 (valL xs ws))) ∨
 (n < offL ws ∧ e = diedE noRecord ∧ Below w.heap.size w w')
set_option maxHeartbeats 1000000 in
theorem rctake_of (g : Nat) (a : Option Addr) (n c o : Nat) (xs : List Int) (b : Option Addr) (m d : Nat) (ws : List Int) (w : World) (ho : o = offL ws) (hg : w.cell? ⟨g, 0, none⟩ = some (.slice a n c)) (hz : w.frozen? ⟨g, 0, none⟩ = false) (hx : BIn w a n xs) (hnil : a = none → n = 0 ∧ c = 0) (hnc : n ≤ c) (hy : NIn .i64 w b m ws) (hn : n ≤ 100000) (hm : m ≤ 1000) :
  Calls Tryz.prog 169 #[.pointer (some ⟨g, 0, none⟩), .int .i64 (o : Nat), .slice b m d] w (RCTook g a n c xs ws w) := by
 have hob : o ≤ 8000 := by have := offL_le ws; have := hy.1; omega
 have H : Hid (BIn w a n xs ∧ NIn .i64 w b m ws ∧ (a = none → n = 0 ∧ c = 0) ∧ n ≤ c ∧ w.cell? ⟨g, 0, none⟩ = some (.slice a n c) ∧ w.frozen? ⟨g, 0, none⟩ = false ∧ o = offL ws) := ⟨hx, hy, hnil, hnc, hg, hz, ho⟩
 clear hx hy hnil hnc hg hz ho
 obtain ⟨M, hM⟩ : ∃ M : Nat, M = min o n := ⟨_, rfl⟩
 have hM' : (if n < o then (n : Int) else o) = M := by rw [hM]; split <;> omega
 have hMc : M ≤ c := by have := H.out.2.2.2.1; omega
 have hsl := fun w => slice_front Tryz.underlying51 Tryz.one_bytes a n c M hMc w
 have hMn : M ≤ n := by omega
 have eX : xs.take M = xs.take (offL ws) := by
  rw [← H.out.2.2.2.2.2.2]
  by_cases h : o ≤ n
  ·rw [hM, Nat.min_eq_left h]
  ·rw [hM, Nat.min_eq_right (by omega), List.take_of_length_le (by rw [H.out.1.1]; exact Nat.le_refl _), List.take_of_length_le (by rw [H.out.1.1]; omega)]
 have HM : Hid (xs.take M = xs.take (offL ws) ∧ M ≤ n ∧ M ≤ c) := ⟨eX, hMn, hMc⟩
 clear hM eX hMc hMn
 have c0 := H.out.2.2.2.2.1
 have cT := take_of a M c (xs.take M) b m d ws w.drew ((H.out.1.n.front M HM.out.2.1).b) (fun e => by have := H.out.2.2.1 e; have := HM.out; omega) HM.out.2.2 H.out.2.1 (by have := HM.out; omega) (by omega)
 have ed : decide (offL ws ≤ (xs.take (offL ws)).length) = decide (o ≤ n) := decide_eq_decide.2 (by rw [cfront_enough, ← H.out.2.2.2.2.2.2, H.out.1.1])
 rw [HM.out.1, ctakeV_take, ed] at cT
 clear ed
 go_enter Tryz.func169, Tryz.ntmps169
 go_upto_region 1 with fail
 go_region_held3 (fun w' => w'.cell? ⟨g, 0, none⟩ = some (.slice a n c)) (first | exact c0 | exact c2)
  (first | (go_simp; go_at_call 219; refine cT.mono ?_; rintro e w2 ⟨A, k, C, R, r, D, rfl, ow, -, bl⟩; have bl' : Below w.heap.size w w2 := (Below.refl _ _).drew.trans bl; have c2 : w2.cell? ⟨g, 0, none⟩ = some (.slice a n c) := by (rw [bl'.cell (old_block c0)]; exact c0)))
 have f2 : w2.frozen? ⟨g, 0, none⟩ = false := by rw [bl'.frozen (old_block c0)]; exact H.out.2.2.2.2.2.1
 have HE : Hid (w2.ownsRow w.heap.size 36 1 (.slice A k C) k (kInts .u64 (takeV xs ws)) ∧ Below w.heap.size w w2) := ⟨ow, bl'⟩
 clear ow bl cT bl' c0 hM' hsl
 by_cases hen : o ≤ n
 ·rw [decide_eq_true hen]
  have hen' : (o : Int) ≤ n := by omega
  obtain ⟨A', eA⟩ : ∃ A', .slice A' (n - o) (c - o) = cleftV a n c o := ⟨_, rfl⟩
  have hb := fun w => slice_back Tryz.underlying51 Tryz.one_bytes a n c o hen w
  have hb' : ∀ w : World, (Instr.slice 51 (.slice a n c) (some (.int .i64 (o : Int))) none none).run Tryz.prog w = .ok (.slice A' (n - o) (c - o)) w := fun w => by rw [hb w, eA]; rfl
  have HA : Hid (.slice A' (n - o) (c - o) = cleftV a n c o) := eA
  clear eA hb
  go_wp2
  go_ret
  refine .inl ⟨by rw [← H.out.2.2.2.2.2.2]; exact hen, A, k, C, w2, rfl, HE.out.2, by rw [← H.out.2.2.2.2.2.2, ← HA.out], ?_⟩
  have := HE.out.1
  rwa [show takeV xs ws = valL xs ws by unfold takeV; rw [if_pos (by rw [← H.out.2.2.2.2.2.2, H.out.1.1]; exact hen)]] at this
 ·rw [decide_eq_false hen]
  go_wp2
  refine ⟨rfl, .inr ⟨by rw [← H.out.2.2.2.2.2.2]; omega, rfl, HE.out.2⟩⟩
theorem Tryz.info_item : (Tryz.prog.info? 50).map (·.size) = some 5 := by kernel_rfl
def it0 : It := ⟨0, 0, 0, 0, 0⟩
set_option maxHeartbeats 1000000 in
theorem item_of (b c : Nat) (x : It) (w : World) (c0 : w.cell? ⟨b, 0, none⟩ = some (.int .u64 x.t)) (c1 : w.cell? ⟨b, 1, none⟩ = some (.int .u64 x.b)) (c2 : w.cell? ⟨b, 2, none⟩ = some (.int .u64 x.k)) (c3 : w.cell? ⟨b, 3, none⟩ = some (.int .u64 x.s)) (c4 : w.cell? ⟨b, 4, none⟩ = some (.int .u64 x.e)) (hr : x.Fits) :
  Calls Tryz.prog 170 #[.slice (some ⟨b, 0, none⟩) 5 c] w fun e w' => e = .returned (.agg (itL x).toArray) ∧ Below w.heap.size w w' := by
 obtain ⟨q, hq⟩ : ∃ q, q = w.heap.size := ⟨_, rfl⟩
 obtain ⟨t, bb, k, s, e⟩ := x
 obtain ⟨⟨f0, f1⟩, _, ⟨k0, k1⟩, ⟨s0, s1⟩, ⟨e0, e1⟩⟩ := hr
 dsimp only at c0 c1 c2 c3 c4 f0 f1 k0 k1 s0 s1 e0 e1
 have u0 : IntKind.u32.wrap t = t := by rw [IntKind.wrap_u32]; omega
 have u2 : IntKind.u8.wrap k = k := by rw [IntKind.wrap_u8]; omega
 have u3 : IntKind.u32.wrap s = s := by rw [IntKind.wrap_u32]; omega
 have u4 : IntKind.u16.wrap e = e := by rw [IntKind.wrap_u16]; omega
 clear f0 f1 k0 k1 s0 s1 e0 e1
 have b0 : Blk (w.alloc (.cells #[.int .u32 0, .int .u64 0, .int .u8 0, .int .u32 0, .int .u16 0] 50)) q (itL it0) 50 := Blk.new' hq.symm rfl
 have bw : Below q w (w.alloc (.cells #[.int .u32 0, .int .u64 0, .int .u8 0, .int .u32 0, .int .u16 0] 50)) := (Below.refl _ _).alloc (by omega) _
 have HQ : Hid (q = w.heap.size) := hq
 rw [← hq]
 go_enter Tryz.func170, Tryz.ntmps170
 go_upto_region 1 with fail
 rw [← hq]
 have bne : b ≠ q := by have := old_block c0; have := HQ.out; simp only at *; omega
 have c0' := (bw.cell (by rw [hq]; exact old_block c0)).trans c0
 have c1' := (bw.cell (by rw [hq]; exact old_block c1)).trans c1
 have c2' := (bw.cell (by rw [hq]; exact old_block c2)).trans c2
 have c3' := (bw.cell (by rw [hq]; exact old_block c3)).trans c3
 have c4' := (bw.cell (by rw [hq]; exact old_block c4)).trans c4
 clear c0 c1 c2 c3 c4 hq
 generalize hW : World.alloc w _ = W at c0' c1' c2' c3' c4' b0 bw ⊢
 clear hW
 have e0 : W.cell? ⟨q, 0, none⟩ = some (.int .u32 0) := b0.cell 0
 have e1 : W.cell? ⟨q, 1, none⟩ = some (.int .u64 0) := b0.cell 1
 have e2 : W.cell? ⟨q, 2, none⟩ = some (.int .u8 0) := b0.cell 2
 have e3 : W.cell? ⟨q, 3, none⟩ = some (.int .u32 0) := b0.cell 3
 have e4 : W.cell? ⟨q, 4, none⟩ = some (.int .u16 0) := b0.cell 4
 have z0 := b0.frozen 0
 have z1 := b0.frozen 1
 have z2 := b0.frozen 2
 have z3 := b0.frozen 3
 have z4 := b0.frozen 4
 have qne : q ≠ b := fun e => bne e.symm
 have HB : Hid (Blk W q (itL it0) 50 ∧ Below q w W) := ⟨b0, bw⟩
 clear b0 bw
 go_wp2
 go_region
 go_wp2
 have b3 : Blk (((((W.setCell ⟨q, 0, none⟩ (.int .u32 t)).setCell ⟨q, 1, none⟩ (.int .u64 bb)).setCell ⟨q, 2, none⟩ (.int .u8 k)).setCell ⟨q, 3, none⟩ (.int .u32 s)).setCell ⟨q, 4, none⟩ (.int .u16 e)).drew q (itL ⟨t, bb, k, s, e⟩) 50 := (HB.out.1.setAll (vs := itL ⟨t, bb, k, s, e⟩) (by rfl)).drew
 exact bodyPost_ret (v := .agg (itL ⟨t, bb, k, s, e⟩).toArray) (results_cell_one (p := 2) (ty := 50) rfl _ _ q _ _ _ rfl b3 Tryz.underlying50 rfl Tryz.info_item) rfl ⟨rfl, ((((((HB.out.2.setCell (Nat.le_refl _) _).setCell (Nat.le_refl _) _).setCell (Nat.le_refl _) _).setCell (Nat.le_refl _) _).setCell (Nat.le_refl _) _)).drew⟩
end Go.Proofs.YtcdnjeiamihhbabGreat
