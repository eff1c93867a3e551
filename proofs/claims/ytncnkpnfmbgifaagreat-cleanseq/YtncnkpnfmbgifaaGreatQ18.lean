/- Texts of this seat, one behind the other: StDn. -/
import Derived.Test.YtncnkpnfmbgifaaGreatQ17
import Derived.Test.YtncnkpnfmbgifaaGreatP22c
import Derived.Test.YtncnkpnfmbgifaaGreatQ7
import Derived.Test.YtncnkpnfmbgifaaGreatP13
import Derived.Deep.DeepCutAuto
/- What one call of On (without lists) and New of the document's store does. -/
namespace Go.Proofs.YtncnkpnfmbgifaaGreat
open Go.RowKit
set_option linter.unusedVariables false
set_option maxRecDepth 4000
theorem dmNew0_of (w : World) : Calls Tryz.prog 132 #[] w fun e w' => e = .returned (.pointer (some ⟨w.heap.size, 0, none⟩)) ∧ Blk w' w.heap.size [.slice none 0 0] 152 ∧ Below w.heap.size w w' := by
 go_enter Tryz.func132, Tryz.ntmps132
 go_wp2
 go_ret
 exact ⟨rfl, Blk.new' rfl rfl, (Below.refl _ _).alloc (Nat.le_refl _) _⟩
theorem sdv_made {O : Nat → Prop} {W V : World} {p : Nat} {s : Sh} {zs : List Zn} {k : Rs} {q o : Int} (hd : Dv 88 O W p s zs) (hw : Wf s zs) (hb : Below W.heap.size W V) (hq : FitsU q) (hpd : k.pd = p) (hz : (s.z.toNat : Int) = s.z)
  (hs : SegR V k.pg k.gg k.gc s (newZ s.z.toNat)) (hm : Blk V k.pm [.slice none 0 0] 152) (hl : Blk V k.lb (kInts .u64 (List.replicate s.z.toNat 0)) 47) (hp : Blk V k.ps (sdL k q s.z.toNat o) 85)
  (g1 : W.heap.size ≤ k.pg) (g2 : W.heap.size ≤ k.gg) (g3 : W.heap.size ≤ k.pm) (g6 : W.heap.size ≤ k.lb) (g7 : W.heap.size ≤ k.ps) :
  SdV (fun x => O x ∧ x < W.heap.size) (fun _ => False) V k (newSt s zs q o) := by
 have h6 := hw.right.1
 have hlen := hw.len
 have a1 : k.ps ≠ k.pg := blk_ne' hp hs.hp (by decide)
 have a2 : k.ps ≠ k.pm := blk_ne' hp hm (by decide)
 have a3 : k.ps ≠ k.lb := blk_ne' hp hl (by decide)
 have a4 : k.pg ≠ k.pm := blk_ne' hs.hp hm (by decide)
 have a5 : k.pg ≠ k.lb := blk_ne' hs.hp hl (by decide)
 have a6 : k.pm ≠ k.lb := blk_ne' hm hl (by decide)
 have own : ∀ {x : Nat} {L : List Value} {t : TypeId}, Blk V x L t → t ≠ 5 → x ≠ k.gg := fun hb ht e => own_not hs.hg hb ht (by rw [e]; rfl)
 have b1 : k.ps ≠ k.gg := own hp (by decide)
 have b2 : k.pg ≠ k.gg := own hs.hp (by decide)
 have b3 : k.pm ≠ k.gg := own hm (by decide)
 have b4 : k.lb ≠ k.gg := own hl (by decide)
 refine ⟨?_, ?_, hs, ⟨⟨none, 0, 0, hm, World.ownsRow_nil _ _ _ _, fun g h => by cases h⟩, good_nil⟩, hl, hw, hq, ⟨?_, ?_⟩, ?_, ?_, fun _ _ h => h, ?_⟩
 ·show Blk V k.ps (sdL k q (List.replicate s.z.toNat (0 : Int)).length o) 85
  rw [List.length_replicate]
  exact hp
 ·rw [hpd]
  obtain ⟨g, c, vs, hv⟩ := hd.there
  exact ⟨g, c, vs, hv.under hb⟩
 ·show (newZ s.z.toNat).length = zs.length
  rw [newZ_length (by omega)]
  omega
 ·show (List.replicate s.z.toNat (0 : Int)).length = zs.length
  rw [List.length_replicate]
  omega
 ·rintro x (⟨_, hx⟩ | hx)
  ·exact Nat.lt_of_lt_of_le hx hb.size
  ·exact hx.elim
 ·rintro x hx
  refine ⟨fun hd => ?_, fun h => h⟩
  rcases hx with rfl | rfl | rfl | rfl | rfl <;> omega
 ·simp only [List.nodup_cons, List.mem_cons, List.not_mem_nil, or_false, not_or, List.nodup_nil, and_true, not_false_eq_true]
  exact ⟨⟨a1, b1, a2, a3⟩, ⟨b2, a4, a5⟩, ⟨fun e => b3 e.symm, fun e => b4 e.symm⟩, a6⟩
set_option maxHeartbeats 4000000 in
theorem don_nil {O : Nat → Prop} {W : World} {p : Nat} {s : Sh} {zs : List Zn} (hd : Dv 88 O W p s zs) (hw : Wf s zs) :
  Calls Tryz.prog 79 #[.pointer (some ⟨p, 0, none⟩), .int .u64 0, .slice none 0 0, .slice none 0 0, .int .i64 0] W fun e w' => Below W.heap.size W w' ∧ ∃ k, e = .returned (.pointer (some ⟨k.ps, 0, none⟩)) ∧ SdV (fun x => O x ∧ x < W.heap.size) (fun _ => False) w' k (newSt s zs 0 0) ∧ ∀ x, k.has x → W.heap.size ≤ x := by
 obtain ⟨N, hN⟩ : ∃ N : Nat, s.z = N := ⟨s.z.toNat, by have := hw.right.1; omega⟩
 have hN1 : 6 ≤ N ∧ N ≤ 256 := by have := hw.right.1; have := hw.right.2.1; omega
 have H : Hid (Dv 88 O W p s zs ∧ Wf s zs ∧ s.z = (N : Int)) := ⟨hd, hw, hN⟩
 have hmk := run_make_row' (P := Tryz.prog) 83 47 (.int .u64 0) 8 Tryz.underlying83 Tryz.zero_u64s rfl .i64 .i64 N (by omega) (by omega)
 have HX : Hid (∀ Y, Below W.heap.size W Y → Y.cell? ⟨p, 0, none⟩ = some (.int .i64 (N : Int)) ∧ Y.cell? ⟨p, 1, none⟩ = some (.int .i64 s.zb) ∧ Y.cell? ⟨p, 2, none⟩ = some (.int .i64 s.b) ∧ Y.cell? ⟨p, 3, none⟩ = some (.int .i64 s.r)) := fun Y hY => by
  obtain ⟨g, c, vs, hv⟩ := hd
  have hc := (hv.under hY).pcell
  rw [hN] at hc
  exact ⟨hc.1, hc.2.1, hc.2.2.1, hc.2.2.2.1⟩
 obtain ⟨x0, x1, x2, x3⟩ := HX.out W (Below.refl _ _)
 have k0 : ∀ o, (W.alloc o).cell? ⟨p, 0, none⟩ = some (.int .i64 (N : Int)) := fun o => (HX.out _ ((Below.refl _ _).alloc (Nat.le_refl _) o)).1
 have k1 : ∀ o, (W.alloc o).cell? ⟨p, 1, none⟩ = some (.int .i64 s.zb) := fun o => (HX.out _ ((Below.refl _ _).alloc (Nat.le_refl _) o)).2.1
 have k2 : ∀ o, (W.alloc o).cell? ⟨p, 2, none⟩ = some (.int .i64 s.b) := fun o => (HX.out _ ((Below.refl _ _).alloc (Nat.le_refl _) o)).2.2.1
 have k3 : ∀ o, (W.alloc o).cell? ⟨p, 3, none⟩ = some (.int .i64 s.r) := fun o => (HX.out _ ((Below.refl _ _).alloc (Nat.le_refl _) o)).2.2.2
 have HG : Hid (∀ Y, Below W.heap.size W Y → Calls Tryz.prog 131 #[.agg #[.int .i64 (N : Int), .int .i64 s.zb, .int .i64 s.b, .int .i64 s.r]] Y fun e Z => ∃ pg gg gc, e = .returned (.pointer (some ⟨pg, 0, none⟩)) ∧ (SegR Z pg gg gc s (newZ s.z.toNat) ∧ Y.heap.size ≤ pg ∧ Y.heap.size ≤ gg ∧ Below Y.heap.size Y Z ∧ Below W.heap.size W Z) ∧ Z.cell? ⟨p, 0, none⟩ = some (.int .i64 (N : Int)) ∧ (∀ o, (Z.alloc o).cell? ⟨p, 0, none⟩ = some (.int .i64 (N : Int)))) := fun Y hY => by
  have := dgNew_of s Y (by have := H.out.2.1.right.1; omega)
  rw [show shL s = [.int .i64 (N : Int), .int .i64 s.zb, .int .i64 s.b, .int .i64 s.r] by unfold shL; rw [H.out.2.2]] at this
  refine this.mono ?_
  rintro e Z (⟨hr, _⟩ | ⟨_, pg, gg, gc, rfl, h1, h2, h3, h4⟩)
  ·exact (hr H.out.2.1.right).elim
  ·have hb := hY.trans (h4.mono hY.size)
   exact ⟨pg, gg, gc, rfl, ⟨h1, h2, h3, h4, hb⟩, (HX.out Z hb).1, fun o => (HX.out _ (hb.alloc hb.size o)).1⟩
 have HM : Hid (∀ Y, Below W.heap.size W Y → Calls Tryz.prog 132 #[] Y fun e Z => e = .returned (.pointer (some ⟨Y.heap.size, 0, none⟩)) ∧ (Blk Z Y.heap.size [.slice none 0 0] 152 ∧ Below Y.heap.size Y Z ∧ Below W.heap.size W Z) ∧ Z.cell? ⟨p, 0, none⟩ = some (.int .i64 (N : Int)) ∧ (∀ o, (Z.alloc o).cell? ⟨p, 0, none⟩ = some (.int .i64 (N : Int)))) := fun Y hY => by
  refine (dmNew0_of Y).mono ?_
  rintro e Z ⟨rfl, h1, h2⟩
  have hb := hY.trans (h2.mono hY.size)
  exact ⟨rfl, ⟨h1, h2, hb⟩, (HX.out Z hb).1, fun o => (HX.out _ (hb.alloc hb.size o)).1⟩
 clear hd hw hN
 go_enter Tryz.func79, Tryz.ntmps79
 go_wp2_with fail
 go_cut [11] (fun v X => ∃ k : Rs, v = .pointer (some ⟨k.ps, 0, none⟩) ∧ SdV (fun x => O x ∧ x < W.heap.size) (fun _ => False) X k (newSt s zs 0 0) ∧ Below W.heap.size W X ∧ ∀ x, k.has x → W.heap.size ≤ x)
 case first =>
  go_region_law (first
   | (go_simp; go_at_call 131; refine (HG.out _ (by first | exact (Below.refl _ _).drew | exact ((Below.refl _ _).alloc (Nat.le_refl _) _).drew)).mono ?_; rintro e V2 ⟨pg, gg, gc, rfl, sg2, y0, y0a⟩)
   | (go_simp; go_at_call 132; refine (HM.out _ (by first | exact sg2.2.2.2.2 | exact sg2.2.2.2.2.alloc sg2.2.2.2.2.size _)).mono ?_; rintro e V3 ⟨rfl, lm3, z0, z0a⟩))
  all_goals (
   have hz : (s.z.toNat : Int) = s.z := by rw [H.out.2.2]; simp
   have hzN : s.z.toNat = N := by rw [H.out.2.2]; simp
   have g1 := sg2.2.1
   have g2 := sg2.2.2.1
   try simp at g1 g2
   first
   | (
    have q3 := lm3.2.1.size
    have q9 := sg2.2.2.2.2.size
    have hpl : V2.heap.size < V3.heap.size := lm3.1.lt
    have hb : Below W.heap.size W ((V3.alloc (.cells (madeCells #[.int .u64 0] N) 47)).alloc (.cells #[.pointer (some ⟨p, 0, none⟩), .pointer (some ⟨pg, 0, none⟩), .pointer (some ⟨V2.heap.size, 0, none⟩), .int .u64 0, .slice (some ⟨V3.heap.size, 0, none⟩) N N, .int .i64 0] 85)) := (lm3.2.2.alloc (by omega) _).alloc (by simp; omega) _
    have PK : Hid (SdV (fun x => O x ∧ x < W.heap.size) (fun _ => False) ((V3.alloc (.cells (madeCells #[.int .u64 0] N) 47)).alloc (.cells #[.pointer (some ⟨p, 0, none⟩), .pointer (some ⟨pg, 0, none⟩), .pointer (some ⟨V2.heap.size, 0, none⟩), .int .u64 0, .slice (some ⟨V3.heap.size, 0, none⟩) N N, .int .i64 0] 85)) ⟨V3.heap.size + 1, p, pg, gg, gc, V2.heap.size, V3.heap.size⟩ (newSt s zs 0 0) ∧ Below W.heap.size W ((V3.alloc (.cells (madeCells #[.int .u64 0] N) 47)).alloc (.cells #[.pointer (some ⟨p, 0, none⟩), .pointer (some ⟨pg, 0, none⟩), .pointer (some ⟨V2.heap.size, 0, none⟩), .int .u64 0, .slice (some ⟨V3.heap.size, 0, none⟩) N N, .int .i64 0] 85)) ∧ ∀ x, Rs.has ⟨V3.heap.size + 1, p, pg, gg, gc, V2.heap.size, V3.heap.size⟩ x → W.heap.size ≤ x) := by
     refine ⟨sdv_made (k := ⟨V3.heap.size + 1, p, pg, gg, gc, V2.heap.size, V3.heap.size⟩) H.out.1 H.out.2.1 hb (by unfold FitsU; omega) rfl hz ?_ ?_ ?_ ?_ (by show W.heap.size ≤ pg; omega) (by show W.heap.size ≤ gg; omega) (by show W.heap.size ≤ V2.heap.size; omega) (by show W.heap.size ≤ V3.heap.size; omega) (by show W.heap.size ≤ V3.heap.size + 1; omega), hb, ?_⟩
     ·exact ((sg2.1.under lm3.2.1).under ((Below.refl _ _).alloc (Nat.le_refl _) _)).under ((Below.refl _ _).alloc (Nat.le_refl _) _)
     ·exact (lm3.1.alloc _).alloc _
     ·rw [hzN]; exact (made_u64 N V3).alloc _
     ·rw [hzN]; exact Blk.new' (by simp) rfl
     ·rintro x (rfl | rfl | rfl | rfl | rfl) <;> (try simp only) <;> omega
    generalize World.alloc _ (.cells #[.pointer (some ⟨p, 0, none⟩), .pointer (some ⟨pg, 0, none⟩), .pointer (some ⟨V2.heap.size, 0, none⟩), .int .u64 0, .slice (some ⟨V3.heap.size, 0, none⟩) N N, .int .i64 0] 85) = V9 at PK ⊢
    generalize V3.heap.size + 1 = ps at PK ⊢
    go_wp2_with fail
    go_meet
    case rel => exact ⟨_, rfl, PK.out.1, PK.out.2.1, PK.out.2.2⟩)
   | (
    have lmb : Below (V2.heap.size + 1) (V2.alloc (.cells (madeCells #[.int .u64 0] N) 47)) V3 := by have := lm3.2.1; simpa using this
    have e3 : Below V2.heap.size V2 V3 := ((Below.refl _ _).alloc (Nat.le_refl _) _).trans (lmb.mono (by omega))
    have q3 := e3.size
    have q9 := sg2.2.2.2.2.size
    have hm3 : Blk V3 (V2.heap.size + 1) [.slice none 0 0] 152 := by have := lm3.1; simpa using this
    have hpl : V2.heap.size + 1 < V3.heap.size := hm3.lt
    have hb : Below W.heap.size W (V3.alloc (.cells #[.pointer (some ⟨p, 0, none⟩), .pointer (some ⟨pg, 0, none⟩), .pointer (some ⟨V2.heap.size + 1, 0, none⟩), .int .u64 0, .slice (some ⟨V2.heap.size, 0, none⟩) N N, .int .i64 0] 85)) := lm3.2.2.alloc (by omega) _
    have PK : Hid (SdV (fun x => O x ∧ x < W.heap.size) (fun _ => False) (V3.alloc (.cells #[.pointer (some ⟨p, 0, none⟩), .pointer (some ⟨pg, 0, none⟩), .pointer (some ⟨V2.heap.size + 1, 0, none⟩), .int .u64 0, .slice (some ⟨V2.heap.size, 0, none⟩) N N, .int .i64 0] 85)) ⟨V3.heap.size, p, pg, gg, gc, V2.heap.size + 1, V2.heap.size⟩ (newSt s zs 0 0) ∧ Below W.heap.size W (V3.alloc (.cells #[.pointer (some ⟨p, 0, none⟩), .pointer (some ⟨pg, 0, none⟩), .pointer (some ⟨V2.heap.size + 1, 0, none⟩), .int .u64 0, .slice (some ⟨V2.heap.size, 0, none⟩) N N, .int .i64 0] 85)) ∧ ∀ x, Rs.has ⟨V3.heap.size, p, pg, gg, gc, V2.heap.size + 1, V2.heap.size⟩ x → W.heap.size ≤ x) := by
     refine ⟨sdv_made (k := ⟨V3.heap.size, p, pg, gg, gc, V2.heap.size + 1, V2.heap.size⟩) H.out.1 H.out.2.1 hb (by unfold FitsU; omega) rfl hz ?_ ?_ ?_ ?_ (by show W.heap.size ≤ pg; omega) (by show W.heap.size ≤ gg; omega) (by show W.heap.size ≤ V2.heap.size + 1; omega) (by show W.heap.size ≤ V2.heap.size; omega) (by show W.heap.size ≤ V3.heap.size; omega), hb, ?_⟩
     ·exact (sg2.1.under e3).under ((Below.refl _ _).alloc (Nat.le_refl _) _)
     ·exact hm3.alloc _
     ·rw [hzN]; exact ((made_u64 N V2).below lmb (by omega)).alloc _
     ·rw [hzN]; exact Blk.new' (by simp) rfl
     ·rintro x (rfl | rfl | rfl | rfl | rfl) <;> (try simp only) <;> omega
    generalize World.alloc _ (.cells #[.pointer (some ⟨p, 0, none⟩), .pointer (some ⟨pg, 0, none⟩), .pointer (some ⟨V2.heap.size + 1, 0, none⟩), .int .u64 0, .slice (some ⟨V2.heap.size, 0, none⟩) N N, .int .i64 0] 85) = V9 at PK ⊢
    generalize V3.heap.size = ps at PK ⊢
    go_wp2_with fail
    go_meet
    case rel => exact ⟨_, rfl, PK.out.1, PK.out.2.1, PK.out.2.2⟩)
   | (
    have sgb : Below (W.heap.size + 1) (W.alloc (.cells (madeCells #[.int .u64 0] N) 47)) V2 := by have := (Below.refl _ _).drew.trans sg2.2.2.2.1; simpa using this
    have e3 := lm3.2.1
    have q3 := e3.size
    have q9 := sg2.2.2.2.2.size
    have q4 : W.heap.size + 1 ≤ V2.heap.size := by have := sgb.size; simpa using this
    have l2 : W.heap.size + 1 ≤ pg ∧ W.heap.size + 1 ≤ gg := by have h1 := sg2.2.1; have h2 := sg2.2.2.1; simpa using (And.intro h1 h2)
    have hpl : V2.heap.size < V3.heap.size := lm3.1.lt
    have hb : Below W.heap.size W (V3.alloc (.cells #[.pointer (some ⟨p, 0, none⟩), .pointer (some ⟨pg, 0, none⟩), .pointer (some ⟨V2.heap.size, 0, none⟩), .int .u64 0, .slice (some ⟨W.heap.size, 0, none⟩) N N, .int .i64 0] 85)) := lm3.2.2.alloc (by omega) _
    have PK : Hid (SdV (fun x => O x ∧ x < W.heap.size) (fun _ => False) (V3.alloc (.cells #[.pointer (some ⟨p, 0, none⟩), .pointer (some ⟨pg, 0, none⟩), .pointer (some ⟨V2.heap.size, 0, none⟩), .int .u64 0, .slice (some ⟨W.heap.size, 0, none⟩) N N, .int .i64 0] 85)) ⟨V3.heap.size, p, pg, gg, gc, V2.heap.size, W.heap.size⟩ (newSt s zs 0 0) ∧ Below W.heap.size W (V3.alloc (.cells #[.pointer (some ⟨p, 0, none⟩), .pointer (some ⟨pg, 0, none⟩), .pointer (some ⟨V2.heap.size, 0, none⟩), .int .u64 0, .slice (some ⟨W.heap.size, 0, none⟩) N N, .int .i64 0] 85)) ∧ ∀ x, Rs.has ⟨V3.heap.size, p, pg, gg, gc, V2.heap.size, W.heap.size⟩ x → W.heap.size ≤ x) := by
     refine ⟨sdv_made (k := ⟨V3.heap.size, p, pg, gg, gc, V2.heap.size, W.heap.size⟩) H.out.1 H.out.2.1 hb (by unfold FitsU; omega) rfl hz ?_ ?_ ?_ ?_ (by show W.heap.size ≤ pg; omega) (by show W.heap.size ≤ gg; omega) (by show W.heap.size ≤ V2.heap.size; omega) (by show W.heap.size ≤ W.heap.size; omega) (by show W.heap.size ≤ V3.heap.size; omega), hb, ?_⟩
     ·exact (sg2.1.under e3).under ((Below.refl _ _).alloc (Nat.le_refl _) _)
     ·exact lm3.1.alloc _
     ·rw [hzN]; exact (((made_u64 N W).below sgb (by omega)).below e3 (by omega)).alloc _
     ·rw [hzN]; exact Blk.new' (by simp) rfl
     ·rintro x (rfl | rfl | rfl | rfl | rfl) <;> (try simp only) <;> omega
    generalize World.alloc _ (.cells #[.pointer (some ⟨p, 0, none⟩), .pointer (some ⟨pg, 0, none⟩), .pointer (some ⟨V2.heap.size, 0, none⟩), .int .u64 0, .slice (some ⟨W.heap.size, 0, none⟩) N N, .int .i64 0] 85) = V9 at PK ⊢
    generalize V3.heap.size = ps at PK ⊢
    go_wp2_with fail
    go_meet
    case rel => exact ⟨_, rfl, PK.out.1, PK.out.2.1, PK.out.2.2⟩))
 case rest =>
  obtain ⟨k, rfl, hk, hb, hh⟩ := hcut
  have HK : Hid (SdV (fun x => O x ∧ x < W.heap.size) (fun _ => False) wc k (newSt s zs 0 0) ∧ Below W.heap.size W wc ∧ ∀ x, k.has x → W.heap.size ≤ x) := ⟨hk, hb, hh⟩
  clear hk hb hh x0 x1 x2 x3 k0 k1 k2 k3 HG HM HX
  obtain ⟨ps, hps⟩ : ∃ ps, ps = k.ps := ⟨_, rfl⟩
  rw [← hps]
  have HPs : Hid (ps = k.ps) := hps
  clear hps
  obtain ⟨W9, hW9⟩ : ∃ W9 : World, W9 = wc := ⟨_, rfl⟩
  rw [← hW9] at HK ⊢
  clear hW9
  go_wp2_with fail
  go_loopw [12] (fun x wr => x = .int .i64 0 ∧ wr = W9) (fun _ _ => 0)
  case atStart => exact ⟨rfl, rfl⟩
  case round =>
   obtain ⟨rfl, rfl⟩ := hrel
   go_wp2
   obtain ⟨V8, rfl⟩ : ∃ V8 : World, V8 = wr := ⟨_, rfl⟩
   go_loopw [13] (fun x wr => x = .int .i64 0 ∧ wr = V8) (fun _ _ => 0)
   case atStart => exact ⟨rfl, rfl⟩
   case round =>
    obtain ⟨rfl, rfl⟩ := hrel
    go_wp2
    go_ret
    exact ⟨HK.out.2.1, k, by rw [← HPs.out]; rfl, HK.out.1, HK.out.2.2⟩
end Go.Proofs.YtncnkpnfmbgifaaGreat
