/- P39 -/
import Derived.Test.YtcdnjeiamihhbabGreatP36
set_option linter.unusedVariables false
set_option maxRecDepth 4000
namespace Go.Proofs.YtcdnjeiamihhbabGreat
open Go.RowKit
theorem Tryz.zero_u64s : (Tryz.prog.info? 36).map (fun i => (i.zero, i.size, i.bytes)) = some (some (.int .u64 0), 1, 8) := by kernel_rfl
theorem made_u64 (n : Nat) (w : World) : Blk (w.alloc (.cells (madeCells #[.int .u64 0] n) 36)) w.heap.size (kInts .u64 (List.replicate n 0)) 36 := by
 refine Blk.new' rfl ?_
 apply Array.ext'
 rw [toList_madeCells_one]
 simp [kInts]
/-- The parts of a store that is being made. -/
def newSt (s : Sh) (zs : List Zn) (q : Int) (o : Int) : St := ⟨s, zs, newZ s.z.toNat, [], q, List.replicate s.z.toNat 0, o⟩
theorem stv_made {O : Nat → Prop} {W V : World} {p : Nat} {s : Sh} {zs : List Zn} {k : Bs} {q o : Int} (hd : Dv 105 O W p s zs) (hw : Wf s zs) (hb : Below W.heap.size W V) (hq : FitsU q) (hpd : k.pd = p) (hz : (s.z.toNat : Int) = s.z)
  (hs : SegP V k.pg k.gg s.r (newZ s.z.toNat)) (hm : LmP V k.pm k.b1 k.b2 [] 0) (hl : Blk V k.lb (kInts .u64 (List.replicate s.z.toNat 0)) 36) (hp : Blk V k.ps (stL k q s.z.toNat o) 84)
  (g1 : W.heap.size ≤ k.pg) (g2 : W.heap.size ≤ k.gg) (g3 : W.heap.size ≤ k.pm) (g4 : W.heap.size ≤ k.b1) (g5 : W.heap.size ≤ k.b2) (g6 : W.heap.size ≤ k.lb) (g7 : W.heap.size ≤ k.ps) :
  StV (fun x => O x ∧ x < W.heap.size) V k (newSt s zs q o) 0 := by
 have h6 := hw.right.1
 have hlz : (newZ s.z.toNat).length = s.z.toNat := newZ_length (by omega)
 have hzl : zs.length = s.z.toNat := by have := hw.len; omega
 refine ⟨?_, ?_, hs, hm, hl, hw, hq, ⟨by show (newZ s.z.toNat).length = zs.length; omega, by show (List.replicate s.z.toNat (0 : Int)).length = zs.length; simp; omega⟩, fun x hx => Nat.lt_of_lt_of_le hx.2 hb.size, ?_, ?_⟩
 ·show Blk V k.ps (stL k q (List.replicate s.z.toNat (0 : Int)).length o) 84
  rw [List.length_replicate]; exact hp
 ·rw [hpd]; exact kdv_under hd.there hb
 ·rintro x (rfl | rfl | rfl | rfl | rfl | rfl | rfl) hx <;> (have := hx.2; omega)
 ·have a1 : k.ps ≠ k.pg := blk_ne' hp hs.hp (by decide)
  have a2 : k.ps ≠ k.gg := blk_ne' hp hs.hg (by decide)
  have a3 : k.ps ≠ k.pm := blk_ne' hp hm.hp (by decide)
  have a4 : k.ps ≠ k.b1 := hm.m1.no_blk hp
  have a5 : k.ps ≠ k.b2 := hm.m2.no_blk hp
  have a6 : k.ps ≠ k.lb := blk_ne' hp hl (by decide)
  have b1 : k.pg ≠ k.gg := hs.ne
  have b2 : k.pg ≠ k.pm := blk_ne' hs.hp hm.hp (by decide)
  have b3 : k.pg ≠ k.b1 := hm.m1.no_blk hs.hp
  have b4 : k.pg ≠ k.b2 := hm.m2.no_blk hs.hp
  have b5 : k.pg ≠ k.lb := blk_ne' hs.hp hl (by decide)
  have c1 : k.gg ≠ k.pm := blk_ne' hs.hg hm.hp (by decide)
  have c2 : k.gg ≠ k.b1 := hm.m1.no_blk hs.hg
  have c3 : k.gg ≠ k.b2 := hm.m2.no_blk hs.hg
  have c4 : k.gg ≠ k.lb := blk_ne' hs.hg hl (by decide)
  have d1 : k.pm ≠ k.b1 := hm.m1.no_blk hm.hp
  have d2 : k.pm ≠ k.b2 := hm.m2.no_blk hm.hp
  have d3 : k.pm ≠ k.lb := blk_ne' hm.hp hl (by decide)
  have e1 : k.b1 ≠ k.b2 := hm.ne
  have e2 : k.b1 ≠ k.lb := fun e => hm.m1.no_blk hl e.symm
  have e3 : k.b2 ≠ k.lb := fun e => hm.m2.no_blk hl e.symm
  simp [a1, a2, a3, a4, a5, a6, b1, b2, b3, b4, b5, c1, c2, c3, c4, d1, d2, d3, e1, e2, e3]
set_option maxHeartbeats 4000000 in
theorem on_nil {O : Nat → Prop} {W : World} {p : Nat} {s : Sh} {zs : List Zn} (hd : Dv 105 O W p s zs) (hw : Wf s zs) :
  Calls Tryz.prog 27 #[.pointer (some ⟨p, 0, none⟩), .int .u64 0, .slice none 0 0, .slice none 0 0, .int .i64 0] W fun e w' => Below W.heap.size W w' ∧ ∃ k, e = .returned (.pointer (some ⟨k.ps, 0, none⟩)) ∧ StV (fun x => O x ∧ x < W.heap.size) w' k (newSt s zs 0 0) 0 ∧ ∀ x, k.has x → W.heap.size ≤ x := by
 obtain ⟨N, hN⟩ : ∃ N : Nat, s.z = N := ⟨s.z.toNat, by have := hw.right.1; omega⟩
 have hN1 : 6 ≤ N ∧ N ≤ 256 := by have := hw.right.1; have := hw.right.2.1; omega
 have H : Hid (Dv 105 O W p s zs ∧ Wf s zs ∧ s.z = (N : Int)) := ⟨hd, hw, hN⟩
 have hsh := dshape_of hd
 rw [hN] at hsh
 have HSh : Hid (Calls Tryz.prog 28 #[.pointer (some ⟨p, 0, none⟩)] W fun e w' => e = .returned (.agg #[.int .i64 (N : Int), .int .i64 s.zb, .int .i64 s.b, .int .i64 s.r]) ∧ Below W.heap.size W w') := hsh
 have hmk := run_make_row' (P := Tryz.prog) 82 36 (.int .u64 0) 8 Tryz.underlying82 Tryz.zero_u64s rfl .i64 .i64 N (by omega) (by omega)
 clear hd hw hN hsh
 go_enter Tryz.func27, Tryz.ntmps27
 go_wp2_with (go_at_call 28; refine HSh.out.mono ?_; rintro e W1 ⟨rfl, hb1⟩)
 have HV : Hid (Below W.heap.size W (W1.alloc (.cells #[.int .i64 (N : Int), .int .i64 s.zb, .int .i64 s.b, .int .i64 s.r] 23)) ∧ Blk (W1.alloc (.cells #[.int .i64 (N : Int), .int .i64 s.zb, .int .i64 s.b, .int .i64 s.r] 23)) W1.heap.size [.int .i64 (N : Int), .int .i64 s.zb, .int .i64 s.b, .int .i64 s.r] 23) := ⟨hb1.alloc hb1.size _, Blk.new' rfl rfl⟩
 clear hb1
 generalize World.alloc W1 _ = V at HV ⊢
 generalize W1.heap.size = ga at HV ⊢
 have x0 : V.cell? ⟨ga, 0, none⟩ = some (.int .i64 (N : Int)) := HV.out.2.cell 0
 have x1 : V.cell? ⟨ga, 1, none⟩ = some (.int .i64 s.zb) := HV.out.2.cell 1
 have x2 : V.cell? ⟨ga, 2, none⟩ = some (.int .i64 s.b) := HV.out.2.cell 2
 have x3 : V.cell? ⟨ga, 3, none⟩ = some (.int .i64 s.r) := HV.out.2.cell 3
 have k0 : ∀ o, (V.alloc o).cell? ⟨ga, 0, none⟩ = some (.int .i64 (N : Int)) := fun o => (HV.out.2.alloc o).cell 0
 have k1 : ∀ o, (V.alloc o).cell? ⟨ga, 1, none⟩ = some (.int .i64 s.zb) := fun o => (HV.out.2.alloc o).cell 1
 have k2 : ∀ o, (V.alloc o).cell? ⟨ga, 2, none⟩ = some (.int .i64 s.b) := fun o => (HV.out.2.alloc o).cell 2
 have k3 : ∀ o, (V.alloc o).cell? ⟨ga, 3, none⟩ = some (.int .i64 s.r) := fun o => (HV.out.2.alloc o).cell 3
 have HG : Hid (∀ Y, Below V.heap.size V Y → Calls Tryz.prog 64 #[.agg #[.int .i64 (N : Int), .int .i64 s.zb, .int .i64 s.b, .int .i64 s.r]] Y fun e Z => ∃ pg gg, e = .returned (.pointer (some ⟨pg, 0, none⟩)) ∧ (SegP Z pg gg s.r (newZ s.z.toNat) ∧ Y.heap.size ≤ pg ∧ Y.heap.size ≤ gg ∧ Below Y.heap.size Y Z) ∧ Z.cell? ⟨ga, 0, none⟩ = some (.int .i64 (N : Int)) ∧ (∀ o, (Z.alloc o).cell? ⟨ga, 0, none⟩ = some (.int .i64 (N : Int)))) := fun Y hY => by
  have := gNew_of s Y (by have := H.out.2.1.right.1; omega)
  rw [show shL s = [.int .i64 (N : Int), .int .i64 s.zb, .int .i64 s.b, .int .i64 s.r] by unfold shL; rw [H.out.2.2]] at this
  refine this.mono ?_
  rintro e Z (⟨hr, _⟩ | ⟨_, pg, gg, rfl, h1, h2, h3, h4⟩)
  ·exact (hr H.out.2.1.right).elim
  ·have bg := HV.out.2.below (hY.trans (h4.mono hY.size)) HV.out.2.lt
   exact ⟨pg, gg, rfl, ⟨h1, h2, h3, h4⟩, bg.cell 0, fun o => (bg.alloc o).cell 0⟩
 have HM : Hid (∀ Y, Calls Tryz.prog 65 #[] Y fun e Z => ∃ pm b1 b2, e = .returned (.pointer (some ⟨pm, 0, none⟩)) ∧ (LmP Z pm b1 b2 [] 0 ∧ Below Y.heap.size Y Z ∧ Y.heap.size ≤ pm ∧ Y.heap.size ≤ b1 ∧ Y.heap.size ≤ b2) ∧ ∀ v, Y.cell? ⟨ga, 0, none⟩ = some v → Z.cell? ⟨ga, 0, none⟩ = some v ∧ (∀ o, (Z.alloc o).cell? ⟨ga, 0, none⟩ = some v)) := fun Y => by
  refine (mNew_of Y).mono ?_
  rintro e Z ⟨pm, b1, b2, rfl, h1, h2, h3, h4, h5⟩
  refine ⟨pm, b1, b2, rfl, ⟨h1, h2, h3, h4, h5⟩, fun v hv => ?_⟩
  have e1 : Z.cell? ⟨ga, 0, none⟩ = some v := (h2.cell (old_block hv)).trans hv
  exact ⟨e1, fun o => (((Below.refl _ _).alloc (Nat.le_refl _) o).cell (old_block e1)).trans e1⟩
 go_region_law (first
  | (go_simp; go_at_call 64; refine (HG.out _ (by first | exact (Below.refl _ _).drew | exact ((Below.refl _ _).alloc (Nat.le_refl _) _).drew)).mono ?_; rintro e V2 ⟨pg, gg, rfl, sg2, y0, y0a⟩)
  | (go_simp; go_at_call 65; refine (HM.out _).mono ?_; rintro e V3 ⟨pm, b1, b2, rfl, lm3, kk⟩; have z0 : V3.cell? ⟨ga, 0, none⟩ = some (.int .i64 (N : Int)) := (kk _ (by first | exact y0 | exact y0a _)).1; have z0a : ∀ o, (V3.alloc o).cell? ⟨ga, 0, none⟩ = some (.int .i64 (N : Int)) := (kk _ (by first | exact y0 | exact y0a _)).2; clear kk))
 all_goals (
  have hbV : Below W.heap.size W V := HV.out.1
  have hz : (s.z.toNat : Int) = s.z := by rw [H.out.2.2]; simp
  have hzN : s.z.toNat = N := by rw [H.out.2.2]; simp
  have hsV := hbV.size
  first
  | (
   have e2 : Below V.heap.size V V2 := (Below.refl _ _).drew.trans sg2.2.2.2
   have g1 : V.heap.size ≤ pg := sg2.2.1
   have g2 : V.heap.size ≤ gg := sg2.2.2.1
   have g3 := lm3.2.2.1
   have g4 := lm3.2.2.2.1
   have g5 := lm3.2.2.2.2
   have e3 : Below V.heap.size V V3 := e2.trans (lm3.2.1.mono e2.size)
   have q2 := e2.size
   have q3 := lm3.2.1.size
   have PK : Hid (StV (fun x => O x ∧ x < W.heap.size) ((V3.alloc (.cells (madeCells #[.int .u64 0] N) 36)).alloc (.cells #[.pointer (some ⟨p, 0, none⟩), .pointer (some ⟨pg, 0, none⟩), .pointer (some ⟨pm, 0, none⟩), .int .u64 0, .slice (some ⟨V3.heap.size, 0, none⟩) N N, .int .i64 0] 84)) ⟨V3.heap.size + 1, p, pg, gg, pm, b1, b2, V3.heap.size⟩ (newSt s zs 0 0) 0 ∧ Below W.heap.size W ((V3.alloc (.cells (madeCells #[.int .u64 0] N) 36)).alloc (.cells #[.pointer (some ⟨p, 0, none⟩), .pointer (some ⟨pg, 0, none⟩), .pointer (some ⟨pm, 0, none⟩), .int .u64 0, .slice (some ⟨V3.heap.size, 0, none⟩) N N, .int .i64 0] 84)) ∧ ∀ x, Bs.has ⟨V3.heap.size + 1, p, pg, gg, pm, b1, b2, V3.heap.size⟩ x → W.heap.size ≤ x) := by
    have hb : Below W.heap.size W ((V3.alloc (.cells (madeCells #[.int .u64 0] N) 36)).alloc (.cells #[.pointer (some ⟨p, 0, none⟩), .pointer (some ⟨pg, 0, none⟩), .pointer (some ⟨pm, 0, none⟩), .int .u64 0, .slice (some ⟨V3.heap.size, 0, none⟩) N N, .int .i64 0] 84)) := ((hbV.trans (e3.mono hsV)).alloc (by omega) _).alloc (by simp; omega) _
    refine ⟨stv_made (k := ⟨V3.heap.size + 1, p, pg, gg, pm, b1, b2, V3.heap.size⟩) H.out.1 H.out.2.1 hb (by unfold FitsU; omega) rfl hz ?_ ?_ ?_ ?_ (by show W.heap.size ≤ pg; omega) (by show W.heap.size ≤ gg; omega) (by show W.heap.size ≤ pm; omega) (by show W.heap.size ≤ b1; omega) (by show W.heap.size ≤ b2; omega) (by show W.heap.size ≤ V3.heap.size; omega) (by show W.heap.size ≤ V3.heap.size + 1; omega), hb, ?_⟩
    ·exact ((sg2.1.under lm3.2.1).under ((Below.refl _ _).alloc (Nat.le_refl _) _)).under ((Below.refl _ _).alloc (Nat.le_refl _) _)
    ·exact (lm3.1.alloc _).alloc _
    ·rw [hzN]; exact (made_u64 N V3).alloc _
    ·rw [hzN]; exact Blk.new' (by simp) rfl
    ·rintro x (rfl | rfl | rfl | rfl | rfl | rfl | rfl) <;> (try simp only) <;> omega
   try clear g1 g2 g3 g4 g5
   clear e2 e3 q2 q3 hbV hz hzN hsV sg2 lm3 y0 y0a z0 z0a k0 k1 k2 k3 x0 x1 x2 x3
   generalize World.alloc (World.alloc V3 _) _ = V9 at PK ⊢
   generalize V3.heap.size + 1 = ps at PK ⊢
   generalize V3.heap.size = lb at PK ⊢)
  | (
   have e2 : Below V.heap.size V V2 := (Below.refl _ _).drew.trans sg2.2.2.2
   have g1 : V.heap.size ≤ pg := sg2.2.1
   have g2 : V.heap.size ≤ gg := sg2.2.2.1
   have g3 := lm3.2.2.1
   have g4 := lm3.2.2.2.1
   have g5 := lm3.2.2.2.2
   have lmb : Below (V2.heap.size + 1) (V2.alloc (.cells (madeCells #[.int .u64 0] N) 36)) V3 := by have := lm3.2.1; simpa using this
   have e3 : Below V2.heap.size V2 V3 := ((Below.refl _ _).alloc (Nat.le_refl _) _).trans (lmb.mono (by omega))
   have q2 := e2.size
   have q3 := e3.size
   have q4 : V2.heap.size + 1 ≤ V3.heap.size := by have := lmb.size; simpa using this
   have l3 : V2.heap.size + 1 ≤ pm ∧ V2.heap.size + 1 ≤ b1 ∧ V2.heap.size + 1 ≤ b2 := by have := lm3.2.2; simpa using this
   have PK : Hid (StV (fun x => O x ∧ x < W.heap.size) (V3.alloc (.cells #[.pointer (some ⟨p, 0, none⟩), .pointer (some ⟨pg, 0, none⟩), .pointer (some ⟨pm, 0, none⟩), .int .u64 0, .slice (some ⟨V2.heap.size, 0, none⟩) N N, .int .i64 0] 84)) ⟨V3.heap.size, p, pg, gg, pm, b1, b2, V2.heap.size⟩ (newSt s zs 0 0) 0 ∧ Below W.heap.size W (V3.alloc (.cells #[.pointer (some ⟨p, 0, none⟩), .pointer (some ⟨pg, 0, none⟩), .pointer (some ⟨pm, 0, none⟩), .int .u64 0, .slice (some ⟨V2.heap.size, 0, none⟩) N N, .int .i64 0] 84)) ∧ ∀ x, Bs.has ⟨V3.heap.size, p, pg, gg, pm, b1, b2, V2.heap.size⟩ x → W.heap.size ≤ x) := by
    have hb : Below W.heap.size W (V3.alloc (.cells #[.pointer (some ⟨p, 0, none⟩), .pointer (some ⟨pg, 0, none⟩), .pointer (some ⟨pm, 0, none⟩), .int .u64 0, .slice (some ⟨V2.heap.size, 0, none⟩) N N, .int .i64 0] 84)) := ((hbV.trans (e2.mono hsV)).trans (e3.mono (by omega))).alloc (by omega) _
    refine ⟨stv_made (k := ⟨V3.heap.size, p, pg, gg, pm, b1, b2, V2.heap.size⟩) H.out.1 H.out.2.1 hb (by unfold FitsU; omega) rfl hz ?_ ?_ ?_ ?_ (by show W.heap.size ≤ pg; omega) (by show W.heap.size ≤ gg; omega) (by show W.heap.size ≤ pm; omega) (by show W.heap.size ≤ b1; omega) (by show W.heap.size ≤ b2; omega) (by show W.heap.size ≤ V2.heap.size; omega) (by show W.heap.size ≤ V3.heap.size; omega), hb, ?_⟩
    ·exact (sg2.1.under e3).under ((Below.refl _ _).alloc (Nat.le_refl _) _)
    ·exact lm3.1.alloc _
    ·rw [hzN]; exact ((made_u64 N V2).below lmb (by omega)).alloc _
    ·rw [hzN]; exact Blk.new' rfl rfl
    ·rintro x (rfl | rfl | rfl | rfl | rfl | rfl | rfl) <;> (try simp only) <;> omega
   try clear g1 g2 g3 g4 g5
   clear e2 e3 q2 q3 q4 l3 lmb hbV hz hzN hsV sg2 lm3 y0 y0a z0 z0a k0 k1 k2 k3 x0 x1 x2 x3
   generalize World.alloc V3 _ = V9 at PK ⊢
   generalize V3.heap.size = ps at PK ⊢
   generalize V2.heap.size = lb at PK ⊢)
  | (
   have sgb : Below (V.heap.size + 1) (V.alloc (.cells (madeCells #[.int .u64 0] N) 36)) V2 := by have := (Below.refl _ _).drew.trans sg2.2.2.2; simpa using this
   have e2 : Below V.heap.size V V2 := ((Below.refl _ _).alloc (Nat.le_refl _) _).trans (sgb.mono (by omega))
   have e3 := lm3.2.1
   have g3 := lm3.2.2.1
   have g4 := lm3.2.2.2.1
   have g5 := lm3.2.2.2.2
   have q2 := e2.size
   have q3 := e3.size
   have q4 : V.heap.size + 1 ≤ V2.heap.size := by have := sgb.size; simpa using this
   have l2 : V.heap.size + 1 ≤ pg ∧ V.heap.size + 1 ≤ gg := by have h1 := sg2.2.1; have h2 := sg2.2.2.1; simpa using (And.intro h1 h2)
   have PK : Hid (StV (fun x => O x ∧ x < W.heap.size) (V3.alloc (.cells #[.pointer (some ⟨p, 0, none⟩), .pointer (some ⟨pg, 0, none⟩), .pointer (some ⟨pm, 0, none⟩), .int .u64 0, .slice (some ⟨V.heap.size, 0, none⟩) N N, .int .i64 0] 84)) ⟨V3.heap.size, p, pg, gg, pm, b1, b2, V.heap.size⟩ (newSt s zs 0 0) 0 ∧ Below W.heap.size W (V3.alloc (.cells #[.pointer (some ⟨p, 0, none⟩), .pointer (some ⟨pg, 0, none⟩), .pointer (some ⟨pm, 0, none⟩), .int .u64 0, .slice (some ⟨V.heap.size, 0, none⟩) N N, .int .i64 0] 84)) ∧ ∀ x, Bs.has ⟨V3.heap.size, p, pg, gg, pm, b1, b2, V.heap.size⟩ x → W.heap.size ≤ x) := by
    have hb : Below W.heap.size W (V3.alloc (.cells #[.pointer (some ⟨p, 0, none⟩), .pointer (some ⟨pg, 0, none⟩), .pointer (some ⟨pm, 0, none⟩), .int .u64 0, .slice (some ⟨V.heap.size, 0, none⟩) N N, .int .i64 0] 84)) := ((hbV.trans (e2.mono hsV)).trans (e3.mono (by omega))).alloc (by omega) _
    refine ⟨stv_made (k := ⟨V3.heap.size, p, pg, gg, pm, b1, b2, V.heap.size⟩) H.out.1 H.out.2.1 hb (by unfold FitsU; omega) rfl hz ?_ ?_ ?_ ?_ (by show W.heap.size ≤ pg; omega) (by show W.heap.size ≤ gg; omega) (by show W.heap.size ≤ pm; omega) (by show W.heap.size ≤ b1; omega) (by show W.heap.size ≤ b2; omega) (by show W.heap.size ≤ V.heap.size; omega) (by show W.heap.size ≤ V3.heap.size; omega), hb, ?_⟩
    ·exact (sg2.1.under e3).under ((Below.refl _ _).alloc (Nat.le_refl _) _)
    ·exact lm3.1.alloc _
    ·rw [hzN]; exact (((made_u64 N V).below sgb (by omega)).below e3 (by omega)).alloc _
    ·rw [hzN]; exact Blk.new' rfl rfl
    ·rintro x (rfl | rfl | rfl | rfl | rfl | rfl | rfl) <;> (try simp only) <;> omega
   clear g3 g4 g5
   clear e2 e3 q2 q3 q4 l2 sgb hbV hz hzN hsV sg2 lm3 y0 y0a z0 z0a k0 k1 k2 k3 x0 x1 x2 x3
   generalize World.alloc V3 _ = V9 at PK ⊢
   generalize V3.heap.size = ps at PK ⊢
   generalize V.heap.size = lb at PK ⊢)
  go_wp2
  go_loopw [32] (fun x wr => x = .int .i64 0 ∧ wr = V9) (fun _ _ => 0)
  case atStart => exact ⟨rfl, rfl⟩
  case round =>
   obtain ⟨rfl, rfl⟩ := hrel
   go_wp2
   obtain ⟨V8, rfl⟩ : ∃ V8 : World, V8 = wr := ⟨_, rfl⟩
   go_loopw [45] (fun x wr => x = .int .i64 0 ∧ wr = V8) (fun _ _ => 0)
   case atStart => exact ⟨rfl, rfl⟩
   case round =>
    obtain ⟨rfl, rfl⟩ := hrel
    go_wp2
    go_ret
    exact ⟨PK.out.2.1, _, rfl, PK.out.1, PK.out.2.2⟩)
theorem swf_svZ {s : Sh} {zs : List Zn} (h : Wf s zs) (slot seq : Int) (ps : List Pl) : Wf s (svZ s zs slot seq ps) := by
 unfold svZ
 split
 ·rename_i he
  unfold svE at he
  split at he
  ·have := wf_put h slot.toNat (ckL s seq ps).length (ckL_size (seq := seq) he) (by rw [ckL_length]; exact (ckE_zero.1 he).2)
   rw [List.take_of_length_le (Nat.le_refl _)] at this
   exact this.flush
  ·cases he
 ·exact h
noncomputable def st0 (s : Sh) : St := newSt s (svZ s (emptyZ s.z.toNat) 0 0 []) 0 0
set_option maxHeartbeats 2000000 in
theorem snew_of (s : Sh) (W : World) (hz : -9223372036854775808 ≤ s.z) : Calls Tryz.prog 7 #[.agg (shL s).toArray] W fun e w' => Below W.heap.size W w' ∧ ((¬ RightS s ∧ e = .returned (.pointer none)) ∨ (RightS s ∧ ∃ D k, e = .returned (.pointer (some ⟨k.ps, 0, none⟩)) ∧ StV D w' k (st0 s) 0 ∧ ∀ x, StO D k x → W.heap.size ≤ x)) := by
 obtain ⟨q, hq⟩ : ∃ q, q = W.heap.size := ⟨_, rfl⟩
 have b0 : Below W.heap.size W (W.alloc (.cells (shL s).toArray 23)) := (Below.refl _ _).alloc (Nat.le_refl _) _
 have hN := new_of s (W.alloc (.cells (shL s).toArray 23)) hz
 have c0 : (W.alloc (.cells (shL s).toArray 23)).cell? ⟨W.heap.size, 0, none⟩ = some (.int .i64 s.z) := (Blk.new' (L := shL s) rfl rfl).cell 0
 have c1 : (W.alloc (.cells (shL s).toArray 23)).cell? ⟨W.heap.size, 1, none⟩ = some (.int .i64 s.zb) := (Blk.new' (L := shL s) rfl rfl).cell 1
 have c2 : (W.alloc (.cells (shL s).toArray 23)).cell? ⟨W.heap.size, 2, none⟩ = some (.int .i64 s.b) := (Blk.new' (L := shL s) rfl rfl).cell 2
 have c3 : (W.alloc (.cells (shL s).toArray 23)).cell? ⟨W.heap.size, 3, none⟩ = some (.int .i64 s.r) := (Blk.new' (L := shL s) rfl rfl).cell 3
 have HB : Hid (Below W.heap.size W (W.alloc (.cells (shL s).toArray 23))) := b0
 unfold shL at hN c0 c1 c2 c3 HB ⊢
 by_cases hr : RightS s
 ·have HN : Hid (Calls Tryz.prog 25 #[.agg #[.int .i64 s.z, .int .i64 s.zb, .int .i64 s.b, .int .i64 s.r]] (W.alloc (.cells #[.int .i64 s.z, .int .i64 s.zb, .int .i64 s.b, .int .i64 s.r] 23)) fun e w1 => ∃ p, e = .returned (.pointer (some ⟨p, 0, none⟩)) ∧ Calls Tryz.prog 26 #[.pointer (some ⟨p, 0, none⟩), .int .i64 0, .agg #[.int .u64 0, .slice none 0 0]] w1 fun e w2 => (∃ v, e = .returned v) ∧ Calls Tryz.prog 27 #[.pointer (some ⟨p, 0, none⟩), .int .u64 0, .slice none 0 0, .slice none 0 0, .int .i64 0] w2 fun e w' => ∃ D k, e = .returned (.pointer (some ⟨k.ps, 0, none⟩)) ∧ Below W.heap.size W w' ∧ StV D w' k (st0 s) 0 ∧ ∀ x, StO D k x → W.heap.size ≤ x) := by
   refine hN.mono ?_
   rintro e w1 ⟨hb, ⟨hn, _⟩ | ⟨_, p, rfl, hd⟩⟩
   ·exact (hn hr).elim
   ·refine ⟨p, rfl, (ksave_of 0 0 none 0 0 [] hd (empty_wf hr) (by unfold FitsU; omega) (kin_none _) (Nat.le_refl _)).mono ?_⟩
    rintro e w2 ⟨rfl, O2, hd2, hO2, ho2⟩
    refine ⟨⟨_, rfl⟩, (on_nil hd2 (swf_svZ (empty_wf hr) 0 0 [])).mono ?_⟩
    have hb' : Below W.heap.size W w1 := HB.out.trans (hb.mono HB.out.size)
    have hW2 : W.heap.size ≤ w2.heap.size := Nat.le_trans hb'.size ho2.size
    have hge : ∀ x, O2 x → W.heap.size ≤ x := fun x hx => by
     rcases hO2 x hx with h | h
     ·have : (W.alloc (.cells #[.int .i64 s.z, .int .i64 s.zb, .int .i64 s.b, .int .i64 s.r] 23)).heap.size = W.heap.size + 1 := by simp
      rw [this] at h; omega
     ·have := hb'.size; omega
    have hb2 : Below W.heap.size W w2 := hb'.trans (ho2.below hb'.size (fun j hj => by
     have : (W.alloc (.cells #[.int .i64 s.z, .int .i64 s.zb, .int .i64 s.b, .int .i64 s.r] 23)).heap.size = W.heap.size + 1 := by simp
     rw [this] at hj; omega))
    rintro e w' ⟨hb3, k, rfl, hv, hk⟩
    refine ⟨_, k, rfl, hb2.trans (hb3.mono hW2), hv, fun x hx => ?_⟩
    rcases hx with hx | hx
    ·exact hge x hx.1
    ·have := hk x hx; omega
  clear hN b0
  go_enter Tryz.func7, Tryz.ntmps7
  go_wp2_with (first
   | (go_at_call 25; refine HN.out.mono ?_; rintro e w1 ⟨p, rfl, h1⟩)
   | (go_at_call 26; refine h1.mono ?_; rintro e w2 ⟨⟨v2, rfl⟩, h2⟩)
   | (go_at_call 27; refine h2.mono ?_; rintro e w3 ⟨D3, k3, rfl, h3⟩))
  go_ret
  exact ⟨h3.1, .inr ⟨hr, D3, k3, rfl, h3.2⟩⟩
 ·have HN : Hid (Calls Tryz.prog 25 #[.agg #[.int .i64 s.z, .int .i64 s.zb, .int .i64 s.b, .int .i64 s.r]] (W.alloc (.cells #[.int .i64 s.z, .int .i64 s.zb, .int .i64 s.b, .int .i64 s.r] 23)) fun e w1 => e = .returned (.pointer none) ∧ Below W.heap.size W w1) := by
   refine hN.mono ?_
   rintro e w1 ⟨hb, ⟨_, rfl⟩ | ⟨hh, _⟩⟩
   ·exact ⟨rfl, HB.out.trans (hb.mono HB.out.size)⟩
   ·exact (hr hh).elim
  clear hN b0
  go_enter Tryz.func7, Tryz.ntmps7
  go_wp2_with (go_at_call 25; refine HN.out.mono ?_; rintro e w1 ⟨rfl, hb1⟩)
  go_ret
  exact ⟨hb1, .inl ⟨hr, rfl⟩⟩
end Go.Proofs.YtcdnjeiamihhbabGreat
