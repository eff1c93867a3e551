/- P51 -/
import Derived.Test.YtcdnjeiamihhbabGreatP50
set_option linter.unusedVariables false
set_option maxRecDepth 4000
namespace Go.Proofs.YtcdnjeiamihhbabGreat
open Go.RowKit
def onP2 (s : Sh) (zs : List Zn) (q sl : Int) (l : List Pl) : St := { newSt s zs q sl with S := l.foldl putS [] }
/-- What On makes of places and of zones that are full, with a slot. -/
def onG2 (s : Sh) (zs : List Zn) (q sl : Int) (l : List Pl) (f : List Int) : St := { onP2 s zs q sl l with L := (f.foldl (fndS q) (newZ s.z.toNat, List.replicate s.z.toNat 0)).1, la := (f.foldl (fndS q) (newZ s.z.toNat, List.replicate s.z.toNat 0)).2 }
theorem onP2next {s : Sh} {zs : List Zn} {q sl : Int} {l : List Pl} {i : Nat} {x : Pl} (h : l[i]? = some x) : onP2 s zs q sl (l.take (i + 1)) = { onP2 s zs q sl (l.take i) with S := putS (onP2 s zs q sl (l.take i)).S x } := by
 unfold onP2
 rw [take_snoc h, List.foldl_append]
 rfl
theorem onG2next {s : Sh} {zs : List Zn} {q sl : Int} {l : List Pl} {f : List Int} {i : Nat} {z : Int} (h : f[i]? = some z) : onG2 s zs q sl l (f.take (i + 1)) = { onG2 s zs q sl l (f.take i) with L := turnZ (onG2 s zs q sl l (f.take i)).L z 1 3, la := if stZ (onG2 s zs q sl l (f.take i)).L z = 1 then (onG2 s zs q sl l (f.take i)).la.set z.toNat q else (onG2 s zs q sl l (f.take i)).la } := by
 unfold onG2
 rw [take_snoc h, List.foldl_append]
 rfl
theorem Sv.farP {P D0 : Nat → Prop} {W V W' : World} {k : Bs} {st : St} {c : Nat} (h : Sv D0 V k st c W') (hb : Below W.heap.size W V) (hB : ∀ x, W.heap.size ≤ x → P x) (hD : ∀ x, D0 x → P x) (hk : ∀ x, k.has x → P x) : Out P W W' := by
 obtain ⟨D, _, _, ho⟩ := h
 have h1 : Out P W V := below_out _ hb
 exact h1.trans ho (fun j hj => .inl (by rcases hj with h | h; exact hD j h; exact hk j h))
set_option maxHeartbeats 4000000 in
theorem on2_of {O : Nat → Prop} {W : World} {p : Nat} {s : Sh} {zs : List Zn} (hd : Dv 105 O W p s zs) (hw : Wf s zs) (q : Int) (hq : FitsU q) (sl : Int) (P : Nat → Prop) (hB : ∀ x, W.heap.size ≤ x → P x) (hO : ∀ x, O x → P x) (a1 : Option Addr) (n1 c1 : Nat) (l : List Pl) (hl : ∀ V, Out P W V → KIn V a1 n1 l) (hn1 : n1 ≤ 90000) (a2 : Option Addr) (n2 c2 : Nat) (f : List Int) (hf : ∀ V, Out P W V → NIn .i64 V a2 n2 f) (hn2 : n2 ≤ 1000) :
  Calls Tryz.prog 27 #[.pointer (some ⟨p, 0, none⟩), .int .u64 q, .slice a1 n1 c1, .slice a2 n2 c2, .int .i64 sl] W fun e w' => ∃ (k : Bs) (V : World), e = .returned (.pointer (some ⟨k.ps, 0, none⟩)) ∧ Below W.heap.size W V ∧ Sv (fun x => O x ∧ x < W.heap.size) V k (onG2 s zs q sl l f) n1 w' ∧ ∀ x, k.has x → W.heap.size ≤ x := by
 obtain ⟨N, hN⟩ : ∃ N : Nat, s.z = N := ⟨s.z.toNat, by have := hw.right.1; omega⟩
 have hN1 : 6 ≤ N ∧ N ≤ 256 := by have := hw.right.1; have := hw.right.2.1; omega
 have H : Hid (Dv 105 O W p s zs ∧ Wf s zs ∧ s.z = (N : Int) ∧ FitsU q) := ⟨hd, hw, hN, hq⟩
 have HL : Hid ((∀ V, Out P W V → KIn V a1 n1 l) ∧ (∀ V, Out P W V → NIn .i64 V a2 n2 f) ∧ (∀ x, O x → P x) ∧ (∀ x, W.heap.size ≤ x → P x)) := ⟨hl, hf, hO, hB⟩
 have hl1 := (hl W (Out.refl _ _)).1
 have hf1 := (hf W (Out.refl _ _)).1
 have hsh := dshape_of hd
 rw [hN] at hsh
 have HSh : Hid (Calls Tryz.prog 28 #[.pointer (some ⟨p, 0, none⟩)] W fun e w' => e = .returned (.agg #[.int .i64 (N : Int), .int .i64 s.zb, .int .i64 s.b, .int .i64 s.r]) ∧ Below W.heap.size W w') := hsh
 have hmk := run_make_row' (P := Tryz.prog) 82 36 (.int .u64 0) 8 Tryz.underlying82 Tryz.zero_u64s rfl .i64 .i64 N (by omega) (by omega)
 clear hd hw hN hsh hq hl hf hO hB
 go_enter Tryz.func27, Tryz.ntmps27
 go_wp2_with (go_at_call 28; refine HSh.out.mono ?_; rintro e W1 ⟨rfl, hb1⟩)
 have HV : Hid (Below W.heap.size W (W1.alloc (.cells #[.int .i64 (N : Int), .int .i64 s.zb, .int .i64 s.b, .int .i64 s.r] 23)) ∧ Blk (W1.alloc (.cells #[.int .i64 (N : Int), .int .i64 s.zb, .int .i64 s.b, .int .i64 s.r] 23)) W1.heap.size [.int .i64 (N : Int), .int .i64 s.zb, .int .i64 s.b, .int .i64 s.r] 23) := ⟨hb1.alloc hb1.size _, Blk.new' rfl rfl⟩
 clear hb1
 generalize World.alloc W1 _ = V at HV ⊢
 generalize W1.heap.size = ga at HV ⊢
 have x0 : V.cell? ⟨ga, 0, none⟩ = some (.int .i64 (N : Int)) := HV.out.2.cell 0
 have x1 : V.cell? ⟨ga, 1, none⟩ = some (.int .i64 s.zb) := HV.out.2.cell 1
 have x2 : V.cell? ⟨ga, 2, none⟩ = some (.int .i64 s.b) := HV.out.2.cell 2
 have x3 : V.cell? ⟨ga, 3, none⟩ = some (.int .i64 s.r) := HV.out.2.cell 3
 have k0 : ∀ o, (V.alloc o).cell? ⟨ga, 0, none⟩ = some (.int .i64 (N : Int)) := fun o => (HV.out.2.alloc o).cell 0
 have k1 : ∀ o, (V.alloc o).cell? ⟨ga, 1, none⟩ = some (.int .i64 s.zb) := fun o => (HV.out.2.alloc o).cell 1
 have k2 : ∀ o, (V.alloc o).cell? ⟨ga, 2, none⟩ = some (.int .i64 s.b) := fun o => (HV.out.2.alloc o).cell 2
 have k3 : ∀ o, (V.alloc o).cell? ⟨ga, 3, none⟩ = some (.int .i64 s.r) := fun o => (HV.out.2.alloc o).cell 3
 have HG : Hid (∀ Y, Below V.heap.size V Y → Calls Tryz.prog 64 #[.agg #[.int .i64 (N : Int), .int .i64 s.zb, .int .i64 s.b, .int .i64 s.r]] Y fun e Z => ∃ pg gg, e = .returned (.pointer (some ⟨pg, 0, none⟩)) ∧ (SegP Z pg gg s.r (newZ s.z.toNat) ∧ Y.heap.size ≤ pg ∧ Y.heap.size ≤ gg ∧ Below Y.heap.size Y Z) ∧ Z.cell? ⟨ga, 0, none⟩ = some (.int .i64 (N : Int)) ∧ (∀ o, (Z.alloc o).cell? ⟨ga, 0, none⟩ = some (.int .i64 (N : Int)))) := fun Y hY => by
  have := gNew_of s Y (by have := H.out.2.1.right.1; omega)
  rw [show shL s = [.int .i64 (N : Int), .int .i64 s.zb, .int .i64 s.b, .int .i64 s.r] by unfold shL; rw [H.out.2.2.1]] at this
  refine this.mono ?_
  rintro e Z (⟨hr, _⟩ | ⟨_, pg, gg, rfl, h1, h2, h3, h4⟩)
  ·exact (hr H.out.2.1.right).elim
  ·have bg := HV.out.2.below (hY.trans (h4.mono hY.size)) HV.out.2.lt
   exact ⟨pg, gg, rfl, ⟨h1, h2, h3, h4⟩, bg.cell 0, fun o => (bg.alloc o).cell 0⟩
 have HM : Hid (∀ Y, Calls Tryz.prog 65 #[] Y fun e Z => ∃ pm b1 b2, e = .returned (.pointer (some ⟨pm, 0, none⟩)) ∧ (LmP Z pm b1 b2 [] 0 ∧ Below Y.heap.size Y Z ∧ Y.heap.size ≤ pm ∧ Y.heap.size ≤ b1 ∧ Y.heap.size ≤ b2) ∧ ∀ v, Y.cell? ⟨ga, 0, none⟩ = some v → Z.cell? ⟨ga, 0, none⟩ = some v ∧ (∀ o, (Z.alloc o).cell? ⟨ga, 0, none⟩ = some v)) := fun Y => by
  refine (mNew_of Y).mono ?_
  rintro e Z ⟨pm, b1, b2, rfl, h1, h2, h3, h4, h5⟩
  refine ⟨pm, b1, b2, rfl, ⟨h1, h2, h3, h4, h5⟩, fun v hv => ?_⟩
  have e1 : Z.cell? ⟨ga, 0, none⟩ = some v := (h2.cell (old_block hv)).trans hv
  exact ⟨e1, fun o => (((Below.refl _ _).alloc (Nat.le_refl _) o).cell (old_block e1)).trans e1⟩
 go_cut [12] (fun v X => ∃ k : Bs, v = .pointer (some ⟨k.ps, 0, none⟩) ∧ StV (fun x => O x ∧ x < W.heap.size) X k (newSt s zs q sl) 0 ∧ Below W.heap.size W X ∧ ∀ x, k.has x → W.heap.size ≤ x)
 case first =>
  go_region_law (first
   | (go_simp; go_at_call 64; refine (HG.out _ (by first | exact (Below.refl _ _).drew | exact ((Below.refl _ _).alloc (Nat.le_refl _) _).drew)).mono ?_; rintro e V2 ⟨pg, gg, rfl, sg2, y0, y0a⟩)
   | (go_simp; go_at_call 65; refine (HM.out _).mono ?_; rintro e V3 ⟨pm, b1, b2, rfl, lm3, kk⟩; have z0 : V3.cell? ⟨ga, 0, none⟩ = some (.int .i64 (N : Int)) := (kk _ (by first | exact y0 | exact y0a _)).1; have z0a : ∀ o, (V3.alloc o).cell? ⟨ga, 0, none⟩ = some (.int .i64 (N : Int)) := (kk _ (by first | exact y0 | exact y0a _)).2; clear kk))
  all_goals (
   have hbV : Below W.heap.size W V := HV.out.1
   have hz : (s.z.toNat : Int) = s.z := by rw [H.out.2.2.1]; simp
   have hzN : s.z.toNat = N := by rw [H.out.2.2.1]; simp
   have hsV := hbV.size
   first
   | (
    have e2 : Below V.heap.size V V2 := (Below.refl _ _).drew.trans sg2.2.2.2
    have g1 : V.heap.size ≤ pg := sg2.2.1
    have g2 : V.heap.size ≤ gg := sg2.2.2.1
    have g3 := lm3.2.2.1
    have g4 := lm3.2.2.2.1
    have g5 := lm3.2.2.2.2
    have e3 : Below V.heap.size V V3 := e2.trans (lm3.2.1.mono e2.size)
    have q2 := e2.size
    have q3 := lm3.2.1.size
    have PK : Hid (StV (fun x => O x ∧ x < W.heap.size) ((V3.alloc (.cells (madeCells #[.int .u64 0] N) 36)).alloc (.cells #[.pointer (some ⟨p, 0, none⟩), .pointer (some ⟨pg, 0, none⟩), .pointer (some ⟨pm, 0, none⟩), .int .u64 q, .slice (some ⟨V3.heap.size, 0, none⟩) N N, .int .i64 sl] 84)) ⟨V3.heap.size + 1, p, pg, gg, pm, b1, b2, V3.heap.size⟩ (newSt s zs q sl) 0 ∧ Below W.heap.size W ((V3.alloc (.cells (madeCells #[.int .u64 0] N) 36)).alloc (.cells #[.pointer (some ⟨p, 0, none⟩), .pointer (some ⟨pg, 0, none⟩), .pointer (some ⟨pm, 0, none⟩), .int .u64 q, .slice (some ⟨V3.heap.size, 0, none⟩) N N, .int .i64 sl] 84)) ∧ ∀ x, Bs.has ⟨V3.heap.size + 1, p, pg, gg, pm, b1, b2, V3.heap.size⟩ x → W.heap.size ≤ x) := by
     have hb : Below W.heap.size W ((V3.alloc (.cells (madeCells #[.int .u64 0] N) 36)).alloc (.cells #[.pointer (some ⟨p, 0, none⟩), .pointer (some ⟨pg, 0, none⟩), .pointer (some ⟨pm, 0, none⟩), .int .u64 q, .slice (some ⟨V3.heap.size, 0, none⟩) N N, .int .i64 sl] 84)) := ((hbV.trans (e3.mono hsV)).alloc (by omega) _).alloc (by simp; omega) _
     refine ⟨stv_made (k := ⟨V3.heap.size + 1, p, pg, gg, pm, b1, b2, V3.heap.size⟩) H.out.1 H.out.2.1 hb H.out.2.2.2 rfl hz ?_ ?_ ?_ ?_ (by show W.heap.size ≤ pg; omega) (by show W.heap.size ≤ gg; omega) (by show W.heap.size ≤ pm; omega) (by show W.heap.size ≤ b1; omega) (by show W.heap.size ≤ b2; omega) (by show W.heap.size ≤ V3.heap.size; omega) (by show W.heap.size ≤ V3.heap.size + 1; omega), hb, ?_⟩
     ·exact ((sg2.1.under lm3.2.1).under ((Below.refl _ _).alloc (Nat.le_refl _) _)).under ((Below.refl _ _).alloc (Nat.le_refl _) _)
     ·exact (lm3.1.alloc _).alloc _
     ·rw [hzN]; exact (made_u64 N V3).alloc _
     ·rw [hzN]; exact Blk.new' (by simp) rfl
     ·rintro x (rfl | rfl | rfl | rfl | rfl | rfl | rfl) <;> (try simp only) <;> omega
    try clear g1 g2 g3 g4 g5
    clear e2 e3 q2 q3 hbV hz hzN hsV sg2 lm3 y0 y0a z0 z0a k0 k1 k2 k3 x0 x1 x2 x3
    generalize World.alloc (World.alloc V3 _) _ = V9 at PK ⊢
    generalize V3.heap.size + 1 = ps at PK ⊢
    generalize V3.heap.size = lb at PK ⊢)
   | (
    have e2 : Below V.heap.size V V2 := (Below.refl _ _).drew.trans sg2.2.2.2
    have g1 : V.heap.size ≤ pg := sg2.2.1
    have g2 : V.heap.size ≤ gg := sg2.2.2.1
    have g3 := lm3.2.2.1
    have g4 := lm3.2.2.2.1
    have g5 := lm3.2.2.2.2
    have lmb : Below (V2.heap.size + 1) (V2.alloc (.cells (madeCells #[.int .u64 0] N) 36)) V3 := by have := lm3.2.1; simpa using this
    have e3 : Below V2.heap.size V2 V3 := ((Below.refl _ _).alloc (Nat.le_refl _) _).trans (lmb.mono (by omega))
    have q2 := e2.size
    have q3 := e3.size
    have q4 : V2.heap.size + 1 ≤ V3.heap.size := by have := lmb.size; simpa using this
    have l3 : V2.heap.size + 1 ≤ pm ∧ V2.heap.size + 1 ≤ b1 ∧ V2.heap.size + 1 ≤ b2 := by have := lm3.2.2; simpa using this
    have PK : Hid (StV (fun x => O x ∧ x < W.heap.size) (V3.alloc (.cells #[.pointer (some ⟨p, 0, none⟩), .pointer (some ⟨pg, 0, none⟩), .pointer (some ⟨pm, 0, none⟩), .int .u64 q, .slice (some ⟨V2.heap.size, 0, none⟩) N N, .int .i64 sl] 84)) ⟨V3.heap.size, p, pg, gg, pm, b1, b2, V2.heap.size⟩ (newSt s zs q sl) 0 ∧ Below W.heap.size W (V3.alloc (.cells #[.pointer (some ⟨p, 0, none⟩), .pointer (some ⟨pg, 0, none⟩), .pointer (some ⟨pm, 0, none⟩), .int .u64 q, .slice (some ⟨V2.heap.size, 0, none⟩) N N, .int .i64 sl] 84)) ∧ ∀ x, Bs.has ⟨V3.heap.size, p, pg, gg, pm, b1, b2, V2.heap.size⟩ x → W.heap.size ≤ x) := by
     have hb : Below W.heap.size W (V3.alloc (.cells #[.pointer (some ⟨p, 0, none⟩), .pointer (some ⟨pg, 0, none⟩), .pointer (some ⟨pm, 0, none⟩), .int .u64 q, .slice (some ⟨V2.heap.size, 0, none⟩) N N, .int .i64 sl] 84)) := ((hbV.trans (e2.mono hsV)).trans (e3.mono (by omega))).alloc (by omega) _
     refine ⟨stv_made (k := ⟨V3.heap.size, p, pg, gg, pm, b1, b2, V2.heap.size⟩) H.out.1 H.out.2.1 hb H.out.2.2.2 rfl hz ?_ ?_ ?_ ?_ (by show W.heap.size ≤ pg; omega) (by show W.heap.size ≤ gg; omega) (by show W.heap.size ≤ pm; omega) (by show W.heap.size ≤ b1; omega) (by show W.heap.size ≤ b2; omega) (by show W.heap.size ≤ V2.heap.size; omega) (by show W.heap.size ≤ V3.heap.size; omega), hb, ?_⟩
     ·exact (sg2.1.under e3).under ((Below.refl _ _).alloc (Nat.le_refl _) _)
     ·exact lm3.1.alloc _
     ·rw [hzN]; exact ((made_u64 N V2).below lmb (by omega)).alloc _
     ·rw [hzN]; exact Blk.new' rfl rfl
     ·rintro x (rfl | rfl | rfl | rfl | rfl | rfl | rfl) <;> (try simp only) <;> omega
    try clear g1 g2 g3 g4 g5
    clear e2 e3 q2 q3 q4 l3 lmb hbV hz hzN hsV sg2 lm3 y0 y0a z0 z0a k0 k1 k2 k3 x0 x1 x2 x3
    generalize World.alloc V3 _ = V9 at PK ⊢
    generalize V3.heap.size = ps at PK ⊢
    generalize V2.heap.size = lb at PK ⊢)
   | (
    have sgb : Below (V.heap.size + 1) (V.alloc (.cells (madeCells #[.int .u64 0] N) 36)) V2 := by have := (Below.refl _ _).drew.trans sg2.2.2.2; simpa using this
    have e2 : Below V.heap.size V V2 := ((Below.refl _ _).alloc (Nat.le_refl _) _).trans (sgb.mono (by omega))
    have e3 := lm3.2.1
    have g3 := lm3.2.2.1
    have g4 := lm3.2.2.2.1
    have g5 := lm3.2.2.2.2
    have q2 := e2.size
    have q3 := e3.size
    have q4 : V.heap.size + 1 ≤ V2.heap.size := by have := sgb.size; simpa using this
    have l2 : V.heap.size + 1 ≤ pg ∧ V.heap.size + 1 ≤ gg := by have h1 := sg2.2.1; have h2 := sg2.2.2.1; simpa using (And.intro h1 h2)
    have PK : Hid (StV (fun x => O x ∧ x < W.heap.size) (V3.alloc (.cells #[.pointer (some ⟨p, 0, none⟩), .pointer (some ⟨pg, 0, none⟩), .pointer (some ⟨pm, 0, none⟩), .int .u64 q, .slice (some ⟨V.heap.size, 0, none⟩) N N, .int .i64 sl] 84)) ⟨V3.heap.size, p, pg, gg, pm, b1, b2, V.heap.size⟩ (newSt s zs q sl) 0 ∧ Below W.heap.size W (V3.alloc (.cells #[.pointer (some ⟨p, 0, none⟩), .pointer (some ⟨pg, 0, none⟩), .pointer (some ⟨pm, 0, none⟩), .int .u64 q, .slice (some ⟨V.heap.size, 0, none⟩) N N, .int .i64 sl] 84)) ∧ ∀ x, Bs.has ⟨V3.heap.size, p, pg, gg, pm, b1, b2, V.heap.size⟩ x → W.heap.size ≤ x) := by
     have hb : Below W.heap.size W (V3.alloc (.cells #[.pointer (some ⟨p, 0, none⟩), .pointer (some ⟨pg, 0, none⟩), .pointer (some ⟨pm, 0, none⟩), .int .u64 q, .slice (some ⟨V.heap.size, 0, none⟩) N N, .int .i64 sl] 84)) := ((hbV.trans (e2.mono hsV)).trans (e3.mono (by omega))).alloc (by omega) _
     refine ⟨stv_made (k := ⟨V3.heap.size, p, pg, gg, pm, b1, b2, V.heap.size⟩) H.out.1 H.out.2.1 hb H.out.2.2.2 rfl hz ?_ ?_ ?_ ?_ (by show W.heap.size ≤ pg; omega) (by show W.heap.size ≤ gg; omega) (by show W.heap.size ≤ pm; omega) (by show W.heap.size ≤ b1; omega) (by show W.heap.size ≤ b2; omega) (by show W.heap.size ≤ V.heap.size; omega) (by show W.heap.size ≤ V3.heap.size; omega), hb, ?_⟩
     ·exact (sg2.1.under e3).under ((Below.refl _ _).alloc (Nat.le_refl _) _)
     ·exact lm3.1.alloc _
     ·rw [hzN]; exact (((made_u64 N V).below sgb (by omega)).below e3 (by omega)).alloc _
     ·rw [hzN]; exact Blk.new' rfl rfl
     ·rintro x (rfl | rfl | rfl | rfl | rfl | rfl | rfl) <;> (try simp only) <;> omega
    clear g3 g4 g5
    clear e2 e3 q2 q3 q4 l2 sgb hbV hz hzN hsV sg2 lm3 y0 y0a z0 z0a k0 k1 k2 k3 x0 x1 x2 x3
    generalize World.alloc V3 _ = V9 at PK ⊢
    generalize V3.heap.size = ps at PK ⊢
    generalize V.heap.size = lb at PK ⊢)
   go_wp2_with fail
   go_meet
   case rel => exact ⟨_, rfl, PK.out.1, PK.out.2.1, PK.out.2.2⟩)
 case rest =>
  obtain ⟨k, rfl, hk, hb, hh⟩ := hcut
  have PS : Hid (Sv (fun x => O x ∧ x < W.heap.size) wc k (onP2 s zs q sl (l.take 0)) 0 wc ∧ Below W.heap.size W wc ∧ ∀ x, k.has x → W.heap.size ≤ x) := ⟨Sv.start hk, hb, hh⟩
  clear hk hb hh x0 x1 x2 x3 k0 k1 k2 k3 HG HM HV HSh
  obtain ⟨V9, hV9⟩ : ∃ V9 : World, V9 = wc := ⟨_, rfl⟩
  rw [← hV9] at PS ⊢
  clear hV9
  obtain ⟨ps, hps⟩ : ∃ ps, ps = k.ps := ⟨_, rfl⟩
  obtain ⟨pm, hpm⟩ : ∃ pm, pm = k.pm := ⟨_, rfl⟩
  obtain ⟨pg, hpg⟩ : ∃ pg, pg = k.pg := ⟨_, rfl⟩
  obtain ⟨lb, hlb⟩ : ∃ lb, lb = k.lb := ⟨_, rfl⟩
  have HK : Hid (ps = k.ps ∧ pm = k.pm ∧ pg = k.pg ∧ lb = k.lb) := ⟨hps, hpm, hpg, hlb⟩
  rw [← hps]
  clear hps hpm hpg hlb
  go_wp2_with fail
  go_loopw [32] (fun x wr => ∃ i : Nat, x = .int .i64 i ∧ i ≤ n1 ∧ Sv (fun x => O x ∧ x < W.heap.size) V9 k (onP2 s zs q sl (l.take i)) i wr) (fun x _ => n1 - (intOf x).toNat)
  case atStart => exact ⟨0, rfl, Nat.zero_le _, PS.out.1⟩
  case round =>
   obtain ⟨i, rfl, hi, sv⟩ := hrel
   have hfar : Out P W wr := sv.farP PS.out.2.1 HL.out.2.2.2 (fun x hx => HL.out.2.2.1 x hx.1) (fun x hx => HL.out.2.2.2 x (PS.out.2.2 x hx))
   rcases Nat.lt_or_ge i n1 with hlt | hge
   ·have hi' : (i : Int) < n1 := by omega
    have hwi : IntKind.i64.wrap ((i : Int) + 1) = (i : Int) + 1 := by rw [IntKind.wrap_i64]; omega
    obtain ⟨x, b, off, hx, hfx, rfl, y0, y1, y2, y3⟩ := (HL.out.1 wr hfar).at4 hlt
    have HU : Hid (∀ V c' st', Sv (fun x => O x ∧ x < W.heap.size) V9 k st' c' V → V.cell? ⟨ps, 2, none⟩ = some (.pointer (some ⟨pm, 0, none⟩))) := fun V c' st' hs => by
     obtain ⟨D', hv, _, _⟩ := hs
     rw [HK.out.1, HK.out.2.1]
     exact hv.cells.2.2.1
    have HP : Hid (∀ V g L t, Sv (fun x => O x ∧ x < W.heap.size) V9 k (onP2 s zs q sl (l.take i)) i V → Blk V g L t → Calls Tryz.prog 66 #[.pointer (some ⟨pm, 0, none⟩), .agg #[.int .u32 x.1.1, .int .u64 x.1.2, .int .i64 x.2.1, .int .i64 x.2.2]] V fun e w' => (∃ v, e = .returned v) ∧ Sv (fun x => O x ∧ x < W.heap.size) V9 k (onP2 s zs q sl (l.take (i + 1))) (i + 1) w' ∧ Blk w' g L t) := fun V g L t hs hg => by
     obtain ⟨D', hv, hD', ho'⟩ := hs
     rw [HK.out.2.1]
     have g1 := hv.mp.m1.no_blk hg
     have g2 := hv.mp.m2.no_blk hg
     refine (mPut_of k.pm k.b1 k.b2 _ i x V hv.mp hfx (by omega)).mono ?_
     rintro e w' ⟨rfl, h1, h2⟩
     refine ⟨⟨_, rfl⟩, ?_, h2.blk hg (fun h => by rcases h with h | h; exact g1 h; exact g2 h)⟩
     rw [onP2next hx]
     exact Sv.next hD' ho' (hv.mpstep h1 h2)
    have HS : Hid (Sv (fun x => O x ∧ x < W.heap.size) V9 k (onP2 s zs q sl (l.take i)) i wr) := sv
    clear sv hx hfx hfar
    go_wp2_with fail
    have HA : Hid (Sv (fun x => O x ∧ x < W.heap.size) V9 k (onP2 s zs q sl (l.take i)) i (wr.alloc (.cells #[.int .u32 x.1.1, .int .u64 x.1.2, .int .i64 x.2.1, .int .i64 x.2.2] 131)) ∧ Blk (wr.alloc (.cells #[.int .u32 x.1.1, .int .u64 x.1.2, .int .i64 x.2.1, .int .i64 x.2.2] 131)) wr.heap.size [.int .u32 x.1.1, .int .u64 x.1.2, .int .i64 x.2.1, .int .i64 x.2.2] 131) := ⟨HS.out.under ((Below.refl _ _).alloc (Nat.le_refl _) _), Blk.new' rfl rfl⟩
    clear HS y0 y1 y2 y3
    generalize World.alloc wr _ = V at HA ⊢
    generalize wr.heap.size = ga at HA ⊢
    have y0 : V.cell? ⟨ga, 0, none⟩ = some (.int .u32 x.1.1) := HA.out.2.cell 0
    have y1 : V.cell? ⟨ga, 1, none⟩ = some (.int .u64 x.1.2) := HA.out.2.cell 1
    have y2 : V.cell? ⟨ga, 2, none⟩ = some (.int .i64 x.2.1) := HA.out.2.cell 2
    have y3 : V.cell? ⟨ga, 3, none⟩ = some (.int .i64 x.2.2) := HA.out.2.cell 3
    have u2 := HU.out _ _ _ HA.out.1
    have HP2 := HP.out V.drew ga _ _ (HA.out.1.under (Below.refl _ _).drew) HA.out.2.drew
    go_region_held3 (fun Y => Y.cell? ⟨ps, 2, none⟩ = some (.pointer (some ⟨pm, 0, none⟩)) ∧ Y.cell? ⟨ga, 0, none⟩ = some (.int .u32 x.1.1) ∧ Y.cell? ⟨ga, 1, none⟩ = some (.int .u64 x.1.2) ∧ Y.cell? ⟨ga, 2, none⟩ = some (.int .i64 x.2.1) ∧ Y.cell? ⟨ga, 3, none⟩ = some (.int .i64 x.2.2)) (first | exact ⟨u2, y0, y1, y2, y3⟩ | exact ⟨HU.out _ _ _ s7, b7.cell 0, b7.cell 1, b7.cell 2, b7.cell 3⟩)
     (first | (go_simp; go_at_call 66; refine HP2.mono ?_; rintro e w7 ⟨⟨v7, rfl⟩, s7, b7⟩))
    have H7 : Hid (Sv (fun x => O x ∧ x < W.heap.size) V9 k (onP2 s zs q sl (l.take (i + 1))) (i + 1) w7) := s7
    clear s7 b7 y0 y1 y2 y3 u2
    go_wp2
    go_roundw
    case rel => exact ⟨i + 1, by simp, by omega, H7.out⟩
    case measure => simp [intOf]; omega
   ·obtain rfl : i = n1 := by omega
    have PT : Hid (Sv (fun x => O x ∧ x < W.heap.size) V9 k (onG2 s zs q sl l (f.take 0)) i wr) := by
     rw [List.take_of_length_le (by omega)] at sv
     exact sv
    clear sv hfar
    go_wp2_with fail
    go_loopw [45] (fun x wr => ∃ j : Nat, x = .int .i64 j ∧ j ≤ n2 ∧ Sv (fun x => O x ∧ x < W.heap.size) V9 k (onG2 s zs q sl l (f.take j)) i wr) (fun x _ => n2 - (intOf x).toNat)
    case atStart => exact ⟨0, rfl, Nat.zero_le _, PT.out⟩
    case round =>
     obtain ⟨j, rfl, hj, sv⟩ := hrel
     have hfar : Out P W wr := sv.farP PS.out.2.1 HL.out.2.2.2 (fun x hx => HL.out.2.2.1 x hx.1) (fun x hx => HL.out.2.2.2 x (PS.out.2.2 x hx))
     rcases Nat.lt_or_ge j n2 with hlt | hge
     ·have hj' : (j : Int) < n2 := by omega
      have hwj : IntKind.i64.wrap ((j : Int) + 1) = (j : Int) + 1 := by rw [IntKind.wrap_i64]; omega
      obtain ⟨b, off, rfl, hc⟩ := (HL.out.2.1 wr hfar).2.2.2.resolve_left (by omega)
      have y0 := hc j hlt
      obtain ⟨z, hz⟩ : ∃ z, f[j]? = some z := ⟨f[j], by simp [show j < f.length by omega]⟩
      rw [show f.getD j 0 = z by simp [List.getD, hz]] at y0
      have u1 : wr.cell? ⟨ps, 1, none⟩ = some (.pointer (some ⟨pg, 0, none⟩)) := by obtain ⟨D', hv, _, _⟩ := sv; rw [HK.out.1, HK.out.2.2.1]; exact hv.cells.2.1
      have hnx := onG2next (s := s) (zs := zs) (q := q) (sl := sl) (l := l) hz
      have hla : (onG2 s zs q sl l (f.take j)).la.length = (onG2 s zs q sl l (f.take j)).L.length := by obtain ⟨D', hv, _, _⟩ := sv; have := hv.len; omega
      by_cases h1 : stZ (onG2 s zs q sl l (f.take j)).L z = 1
      ·rw [if_pos h1] at hnx
       obtain ⟨m, rfl, hm⟩ : ∃ m : Nat, z = m ∧ m < (onG2 s zs q sl l (f.take j)).L.length := by
        by_cases h0 : z < 0 ∨ ((onG2 s zs q sl l (f.take j)).L.length : Int) ≤ z
        ·rw [stZ_out h0] at h1; cases h1
        ·exact ⟨z.toNat, by omega, by omega⟩
       rw [Int.toNat_natCast] at hnx
       obtain ⟨NL, hNL⟩ : ∃ NL, NL = (onG2 s zs q sl l (f.take j)).la.length := ⟨_, rfl⟩
       have hmN : m < NL := by omega
       have HF : Hid (∀ V, Sv (fun x => O x ∧ x < W.heap.size) V9 k (onG2 s zs q sl l (f.take j)) i V → Calls Tryz.prog 67 #[.pointer (some ⟨pg, 0, none⟩), .int .i64 (m : Nat)] V fun e w' => e = .returned (.bool true) ∧ (∃ old, w'.cell? ⟨lb, m, none⟩ = some (.int .u64 old)) ∧ w'.frozen? ⟨lb, m, none⟩ = false ∧ w'.cell? ⟨ps, 4, none⟩ = some (.slice (some ⟨lb, 0, none⟩) NL NL) ∧ Sv (fun x => O x ∧ x < W.heap.size) V9 k (onG2 s zs q sl l (f.take (j + 1))) i (w'.setCell ⟨lb, m, none⟩ (.int .u64 q))) := fun V hs => by
        obtain ⟨D', hv, hD', ho'⟩ := hs
        rw [HK.out.1, HK.out.2.2.1, HK.out.2.2.2]
        refine (gFound_of k.pg k.gg _ _ m V hv.sg).mono ?_
        rintro e w' ⟨rfl, k1, k2⟩
        rw [decide_eq_true h1]
        obtain ⟨D5, hv5, hD5, ho5⟩ := Sv.next hD' ho' (hv.sgstep k1 k2 (turnZ_length _ _ _ _))
        refine ⟨rfl, ⟨(onG2 s zs q sl l (f.take j)).la[m], ?_⟩, hv5.hl.frozen _, by rw [hNL]; exact hv5.cells.2.2.2.2.1, ?_⟩
        ·have := hv5.hl.cell m
         rw [this]
         show (kInts .u64 (onG2 s zs q sl l (f.take j)).la)[m]? = _
         simp [kInts, show m < (onG2 s zs q sl l (f.take j)).la.length by omega]
        ·rw [hnx]
         exact Sv.next hD5 ho5 (hv5.setLa m q)
       have HS : Hid (Sv (fun x => O x ∧ x < W.heap.size) V9 k (onG2 s zs q sl l (f.take j)) i wr) := sv
       clear sv hfar hc hz h1 hm hla hnx hNL
       go_wp2_with (go_at_call 67; refine (HF.out _ HS.out).mono ?_; rintro e w7 ⟨rfl, ⟨old, g1⟩, g2, g3, s7⟩; have H7 : Hid (Sv (fun x => O x ∧ x < W.heap.size) V9 k (onG2 s zs q sl l (f.take (j + 1))) i (w7.setCell ⟨lb, m, none⟩ (.int .u64 q))) := s7; clear s7)
       all_goals (
        go_roundw
        case rel => exact ⟨j + 1, by simp, by omega, H7.out⟩
        case measure => simp [intOf]; omega)
      ·rw [if_neg h1] at hnx
       have HF : Hid (∀ V, Sv (fun x => O x ∧ x < W.heap.size) V9 k (onG2 s zs q sl l (f.take j)) i V → Calls Tryz.prog 67 #[.pointer (some ⟨pg, 0, none⟩), .int .i64 z] V fun e w' => e = .returned (.bool false) ∧ Sv (fun x => O x ∧ x < W.heap.size) V9 k (onG2 s zs q sl l (f.take (j + 1))) i w') := fun V hs => by
        obtain ⟨D', hv, hD', ho'⟩ := hs
        rw [HK.out.2.2.1]
        refine (gFound_of k.pg k.gg _ _ z V hv.sg).mono ?_
        rintro e w' ⟨rfl, k1, k2⟩
        rw [decide_eq_false h1]
        refine ⟨rfl, ?_⟩
        rw [hnx]
        exact Sv.next hD' ho' (hv.sgstep k1 k2 (turnZ_length _ _ _ _))
       have HS : Hid (Sv (fun x => O x ∧ x < W.heap.size) V9 k (onG2 s zs q sl l (f.take j)) i wr) := sv
       clear sv hfar hc hz h1 hla hnx
       go_wp2_with (go_at_call 67; refine (HF.out _ HS.out).mono ?_; rintro e w7 ⟨rfl, s7⟩; have H7 : Hid (Sv (fun x => O x ∧ x < W.heap.size) V9 k (onG2 s zs q sl l (f.take (j + 1))) i w7) := s7; clear s7)
       all_goals (
        go_roundw
        case rel => exact ⟨j + 1, by simp, by omega, H7.out⟩
        case measure => simp [intOf]; omega)
     ·obtain rfl : j = n2 := by omega
      have PU : Hid (Sv (fun x => O x ∧ x < W.heap.size) V9 k (onG2 s zs q sl l f) i wr) := by
       rw [List.take_of_length_le (by omega)] at sv
       exact sv
      clear sv hfar
      go_wp2
      go_ret
      exact ⟨k, V9, by rw [← HK.out.1]; rfl, PS.out.2.1, PU.out, PS.out.2.2⟩
end Go.Proofs.YtcdnjeiamihhbabGreat
namespace Go.Proofs.YtcdnjeiamihhbabGreat
open Go.RowKit Go.Sort Go.Lib Go.Shelf
theorem decX_few (bs : List Int) : (decX bs).length ≤ 214 := by
 unfold decX
 split
 ·rename_i h
  exact h.1.bounds.2.2.2.1
 ·simp
theorem scanP_mem {zs : List Zn} {z : Int} : ∀ (f i j : Nat), j ∈ scanP zs z f i → j < (atZ zs z).1.length ∧ ∃ e, recEnd zs z j = some e
 | 0, i, j, h => by simp [scanP] at h
 | f + 1, i, j, h => by
  cases he : recEnd zs z i with
  | none => rw [scanP_end he] at h; simp at h
  | some e =>
   rw [scanP_step he] at h
   rcases List.mem_cons.1 h with rfl | h
   ·obtain ⟨_, _, _, _, h4⟩ := recEnd_some he
    exact ⟨h4, e, he⟩
   ·exact scanP_mem f e j h
theorem newTo_mem {zs : List Zn} {q : Int} : ∀ {k : Nat} {x : Int × Int × Int}, x ∈ newTo zs q k → ∃ z b : Nat, x = (decS (elB zs (z : Nat) b), (z : Int), (b : Int)) ∧ 2 ≤ z ∧ z < k ∧ b ∈ scanL zs (z : Nat) ∧ q < decS (elB zs (z : Nat) b) := by
 intro k x hx
 induction k with
 | zero => simp [newTo] at hx
 | succ k ih =>
  by_cases h2 : 2 ≤ k
  ·rw [newTo_step h2] at hx
   rcases List.mem_append.1 hx with h | h
   ·obtain ⟨z, b, e, h1, h3, h4⟩ := ih h
    exact ⟨z, b, e, h1, by omega, h4⟩
   ·unfold newrZ at h
    obtain ⟨b, hb, rfl⟩ := List.mem_map.1 h
    obtain ⟨hb1, hb2⟩ := List.mem_filter.1 hb
    exact ⟨k, b, rfl, h2, by omega, hb1, by simpa using hb2⟩
  ·have e : newTo zs q (k + 1) = newTo zs q k := by
    show (if _ then _ else _) = _
    rw [if_neg h2]
   rw [e] at hx
   obtain ⟨z, b, e, h1, h3, h4⟩ := ih hx
   exact ⟨z, b, e, h1, by omega, h4⟩
theorem foX_ok {s : Sh} {zs : List Zn} {q : Int} (hw : Wf s zs) {W : World} {b1 b2 : Nat} {l : List Fo} (hp : (l.map foK).Perm (newTo zs q zs.length)) {f : Fo} (hf : f ∈ l) (hi : ItsIn W f.a f.m (foX zs f)) (hne : f.m ≠ 0 → ∀ y, f.a.map (·.block) = some y → y ≠ b1 ∧ y ≠ b2) : FoOk W b1 b2 (foX zs) f := by
 obtain ⟨z, b, e, h1, h2, h3, h4⟩ := newTo_mem (hp.mem_iff.1 (List.mem_map_of_mem hf))
 have hz6 : zs.length ≤ 256 := by have h1 := hw.len; have h2 := hw.right.2.1; omega
 have hl := scanP_mem _ _ _ h3
 have hzz := hw.zone (zs[z]) (List.getElem_mem h2)
 have h5 : (atZ zs (z : Int)).1 = (zs[z]).1 := by
  unfold atZ
  rw [if_pos (by omega)]
  simp [List.getD, h2]
 have h6 := hzz.1
 have h7 := hw.right.2.2.2.1
 rw [h5] at hl
 obtain ⟨fs, fa, fm, fc, fz, fb⟩ := f
 simp only [foK, Prod.mk.injEq] at e
 obtain ⟨e1, rfl, rfl⟩ := e
 exact ⟨⟨z, rfl, by omega⟩, ⟨b, rfl, by have := hl.1; omega⟩, by have h8 : (foX zs ⟨fs, fa, fm, fc, z, b⟩).length = fm := hi.1; have h9 : (foX zs ⟨fs, fa, fm, fc, z, b⟩).length ≤ 214 := decX_few _; show fm ≤ 220; omega, hi, hne⟩
end Go.Proofs.YtcdnjeiamihhbabGreat
