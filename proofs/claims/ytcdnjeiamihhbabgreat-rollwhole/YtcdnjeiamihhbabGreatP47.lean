/- P47 -/
import Derived.Test.YtcdnjeiamihhbabGreatP46
import Derived.Test.YtcdnjeiamihhbabGreatP44
set_option linter.unusedVariables false
set_option maxRecDepth 4000
namespace Go.Proofs.YtcdnjeiamihhbabGreat
open Go.RowKit
section
theorem decX_len (bs : List Int) : (decX bs).length ≤ bs.length := by
 unfold decX
 split
 ·rename_i h
  have := h.1.bounds
  omega
 ·simp
/-- The block of a record. -/
def elB (zs : List Zn) (z : Int) (i : Nat) : List Int := (recB zs (z, (i : Int))).getD []
/-- What a scan tells. -/
def ScGot (W : World) (zs : List Zn) (z : Int) (e : Ending) (w' : World) : Prop := ∃ A C B cB n, e = .returned (.tuple #[.slice A n C, .slice B n cB]) ∧ ScR W.heap.size W w' A n C B n cB ((scanL zs z).map (elB zs z)) ((scanL zs z).map (fun i => ((i : Nat) : Int)))
section
variable {O : Nat → Prop} {W : World} {p : Nat} {s : Sh} {zs : List Zn}
theorem recB_small (hw : Wf s zs) {z : Int} {i : Nat} {E : List Int} (h : recB zs (z, (i : Int)) = some E) : E.length ≤ 4096 ∧ i < 4096 ∧ (atZ zs z).1.length ≤ 4096 := by
 obtain ⟨i', j, zn, e1, hz, hj⟩ := blkZ_some (recB_some h).1
 simp only [Prod.mk.injEq] at e1
 obtain ⟨rfl, e1⟩ := e1
 have hzz := hw.zone zn (List.mem_of_getElem? hz)
 have h1 := hzz.2.2.2 E (List.mem_of_getElem? hj)
 have h2 := (power_bounds hw.right.2.2.2.2.1).2
 have h3 := hw.right.2.2.2.1
 have h4 := (List.getElem?_eq_some_iff.1 hj).1
 have h5 : (atZ zs (i' : Int)).1 = zn.1 := by
  unfold atZ
  rw [if_pos (by omega)]
  simp [List.getD, hz]
 rw [h5]
 have h6 := hzz.1
 refine ⟨by omega, by omega, by omega⟩
set_option maxHeartbeats 4000000 in
theorem oscan_of (z : Int) (hd : Dv 105 O W p s zs) (hw : Wf s zs) :
  Calls Tryz.prog 10 #[.pointer (some ⟨p, 0, none⟩), .int .i64 z] W (ScGot W zs z) := by
 obtain ⟨q, hq⟩ : ∃ q, q = W.heap.size := ⟨_, rfl⟩
 have hV0 : Below q W (W.alloc (.cells #[.int .i64 z, .int .i64 0] 55)) ∧ Blk (W.alloc (.cells #[.int .i64 z, .int .i64 0] 55)) q [.int .i64 z, .int .i64 0] 55 := ⟨(Below.refl _ _).alloc (by omega) _, Blk.new' hq.symm rfl⟩
 have HQ : Hid (q = W.heap.size) := hq
 have HRd : Hid (∀ V bn, Below q W V → Calls Tryz.prog 36 #[.pointer (some ⟨p, 0, none⟩), .agg #[.int .i64 z, .int .i64 bn]] V (RdGot V zs z bn)) := fun V bn hV => oread_of z bn (hd.later (by rw [← hq]; exact hV)) hw
 have HEn : Hid (∀ V S i A n C X, Below q W V → ItsIn V A n X → i ≤ 100000 → n ≤ 100000 → Calls Tryz.prog 37 #[.agg #[.int .u64 S, .slice A n C, .int .i64 z, .int .i64 (i : Nat)], .pointer (some ⟨p, 0, none⟩)] V (EndGot V zs z X i)) := fun V S i A n C X hV hX hi hn => oend_of S z i A n C X (hd.later (by rw [← hq]; exact hV)) hw hX hi hn
 have HW : Hid (Wf s zs) := hw
 clear hd hw
 go_enter Tryz.func10, Tryz.ntmps10
 go_wp2_with fail
 rw [← hq]
 clear hq
 generalize World.alloc W _ = V at hV0 ⊢
 have HV : Hid (Below q W V ∧ Blk V q [.int .i64 z, .int .i64 0] 55) := hV0
 clear hV0
 go_loopw [6, 7] (fun u v wr => ∃ (l : List Nat) (i n C cB : Nat) (A B : Option Addr), u = .slice A n C ∧ v = .slice B n cB ∧ OnWay zs z l i ∧ ScR q W wr A n C B n cB (l.map (elB zs z)) (l.map (fun i => ((i : Nat) : Int))) ∧ Blk wr q [.int .i64 z, .int .i64 (i : Nat)] 55 ∧ n ≤ i) (fun _ _ wr => (atZ zs z).1.length - (match wr.cell? ⟨q, 1, none⟩ with | some v => (intOf v).toNat | none => 0))
 case atStart => exact ⟨[], 0, 0, 0, 0, none, none, rfl, rfl, way_start _ _, ScR.start W q HV.out.1 HV.out.2.lt, HV.out.2, Nat.le_refl _⟩
 case round =>
  obtain ⟨l, i, n, C, cB, A, B, rfl, rfl, way, sc, bq, hni⟩ := hrel
  have n0 : wr.cell? ⟨q, 0, none⟩ = some (.int .i64 z) := bq.cell 0
  have n1 : wr.cell? ⟨q, 1, none⟩ = some (.int .i64 (i : Nat)) := bq.cell 1
  have hRd := HRd.out wr (i : Nat) sc.bel
  have HS : Hid (OnWay zs z l i ∧ ScR q W wr A n C B n cB (l.map (elB zs z)) (l.map (fun i => ((i : Nat) : Int))) ∧ Blk wr q [.int .i64 z, .int .i64 (i : Nat)] 55 ∧ wr.cell? ⟨q, 1, none⟩ = some (.int .i64 (i : Nat)) ∧ n ≤ i) := ⟨way, sc, bq, n1, hni⟩
  clear way sc bq hni
  go_wp2_with fail
  refine hRd.mono ?_
  clear hRd
  rintro e w1 ⟨hb1, ⟨E, hE, a, m, c, rfl, hi, hf⟩ | ⟨hN, S, a, m, c, x1, x2, rfl⟩⟩
  ·have hsm := recB_small HW.out hE
   have hwr : Below q W wr := HS.out.2.1.bel
   have hqw : q < wr.heap.size := HS.out.2.2.1.lt
   have hml : m ≤ 100000 := by
    have h1 := hi.1
    have h2 := decX_len E
    omega
   have HY0 : Blk (w1.alloc (.cells #[.int .u64 (decS E), .slice a m c, .int .i64 z, .int .i64 (i : Nat)] 94)) w1.heap.size [.int .u64 (decS E), .slice a m c, .int .i64 z, .int .i64 (i : Nat)] 94 ∧ Below wr.heap.size wr (w1.alloc (.cells #[.int .u64 (decS E), .slice a m c, .int .i64 z, .int .i64 (i : Nat)] 94)) ∧ ItsIn (w1.alloc (.cells #[.int .u64 (decS E), .slice a m c, .int .i64 z, .int .i64 (i : Nat)] 94)) a m (decX E) := ⟨Blk.new' rfl rfl, hb1.alloc hb1.size _, hi.below ((Below.refl _ _).alloc (Nat.le_refl _) _)⟩
   obtain ⟨S, hS⟩ : ∃ S, S = decS E := ⟨_, rfl⟩
   rw [← hS] at HY0 ⊢
   have HF : Hid (recB zs (z, (i : Int)) = some E ∧ Fresh wr.heap.size a m ∧ S = decS E ∧ i < 4096 ∧ m ≤ 100000) := ⟨hE, hf, hS, hsm.2.1, hml⟩
   clear hE hf hS hsm hml hi
   go_wp2_with fail
   generalize World.alloc w1 _ = V1 at HY0 ⊢
   generalize w1.heap.size = f0 at HY0 ⊢
   have HY : Hid (Blk V1 f0 [.int .u64 S, .slice a m c, .int .i64 z, .int .i64 (i : Nat)] 94 ∧ Below wr.heap.size wr V1 ∧ ItsIn V1 a m (decX E) ∧ Below q W V1) := ⟨HY0.1, HY0.2.1, HY0.2.2, hwr.trans (HY0.2.1.mono (by omega))⟩
   clear HY0 hb1 n0 n1
   refine (HEn.out V1 S i a m c (decX E) HY.out.2.2.2 HY.out.2.2.1 (by have := HF.out.2.2.2.1; omega) HF.out.2.2.2.2).mono ?_
   rintro e w2 ⟨hb2, ⟨j, hj, rfl⟩ | ⟨hN, rfl⟩⟩
   ·have hf0 := HY.out.1.lt
    have hsz1 := HY.out.2.1.size
    have HZ0 : Blk (w2.alloc (.cells #[.int .i64 z, .int .i64 ((j : Nat) + 1)] 55)) w2.heap.size [.int .i64 z, .int .i64 ((j : Nat) + 1)] 55 ∧ Below wr.heap.size wr (w2.alloc (.cells #[.int .i64 z, .int .i64 ((j : Nat) + 1)] 55)) ∧ ItsIn (w2.alloc (.cells #[.int .i64 z, .int .i64 ((j : Nat) + 1)] 55)) a m (decX E) ∧ Blk (w2.alloc (.cells #[.int .i64 z, .int .i64 ((j : Nat) + 1)] 55)) f0 [.int .u64 S, .slice a m c, .int .i64 z, .int .i64 (i : Nat)] 94 := by
     have ba := hb2.alloc hb2.size (.cells #[.int .i64 z, .int .i64 ((j : Nat) + 1)] 55)
     exact ⟨Blk.new' rfl rfl, HY.out.2.1.trans (ba.mono hsz1), HY.out.2.2.1.below ba, HY.out.1.below ba hf0⟩
    have d0 : (w2.alloc (.cells #[.int .i64 z, .int .i64 ((j : Nat) + 1)] 55)).cell? ⟨f0, 0, none⟩ = some (.int .u64 S) := HZ0.2.2.2.cell 0
    have hre : recEnd zs z i = some (j + 1) := by
     unfold recEnd
     rw [HF.out.1]
     exact hj
    have HJ : Hid (recEnd zs z i = some (j + 1)) := hre
    clear hj hre hb2 hf0 hsz1 d0
    go_wp2_with fail
    generalize World.alloc w2 _ = V3 at HZ0 ⊢
    generalize w2.heap.size = e0 at HZ0 ⊢
    have HZ : Hid (Blk V3 e0 [.int .i64 z, .int .i64 ((j : Nat) + 1)] 55 ∧ Below wr.heap.size wr V3 ∧ ItsIn V3 a m (decX E) ∧ Blk V3 f0 [.int .u64 S, .slice a m c, .int .i64 z, .int .i64 (i : Nat)] 94) := HZ0
    clear HZ0
    have hn : n + 1 ≤ 100000 := by have := HF.out.2.2.2.1; have := HS.out.2.2.2.2; omega
    have hbq := HS.out.2.2.1.below HZ.out.2.1 HS.out.2.2.1.lt
    have hv3 := HZ.out.2.1.size
    have bD : Below V3.heap.size V3 V3.drew := (Below.refl _ _).drew
    have hltA := HS.out.2.1.ltA
    have hltB := HS.out.2.1.ltB
    have hfr : m ≠ 0 → ∀ y, a.map (·.block) = some y → q < y ∧ ¬ (Value.slice A n C).ownBlock = some y ∧ ¬ (Value.slice B n cB).ownBlock = some y := fun hm y hy => by
     have h1 := HF.out.2.1 hm y hy
     exact ⟨by omega, fun e => by have := hltA y e; omega, fun e => by have := hltB y e; omega⟩
    have scD : ScR q W V3.drew A n C B n cB (l.map (elB zs z)) (l.map (fun i => ((i : Nat) : Int))) := HS.out.2.1.below (HZ.out.2.1.trans (bD.mono hv3))
    have hES : S = decS E := HF.out.2.2.1
    have kf : Blk V3.drew f0 [.int .u64 S, .slice a m c, .int .i64 z, .int .i64 (i : Nat)] 94 := HZ.out.2.2.2.below bD HZ.out.2.2.2.lt
    have ke : Blk V3.drew e0 [.int .i64 z, .int .i64 ((j : Nat) + 1)] 55 := HZ.out.1.below bD HZ.out.1.lt
    have kq : Blk V3.drew q [.int .i64 z, .int .i64 (i : Nat)] 55 := hbq.below bD hbq.lt
    have s0 : V3.drew.cell? ⟨f0, 0, none⟩ = some (.int .u64 S) := kf.cell 0
    have s1 : V3.drew.cell? ⟨f0, 1, none⟩ = some (.slice a m c) := kf.cell 1
    have s3 : V3.drew.cell? ⟨f0, 3, none⟩ = some (.int .i64 (i : Nat)) := kf.cell 3
    have t0 : ∀ o, (V3.drew.alloc o).cell? ⟨f0, 0, none⟩ = some (.int .u64 S) := fun o => (kf.alloc o).cell 0
    have t1 : ∀ o, (V3.drew.alloc o).cell? ⟨f0, 1, none⟩ = some (.slice a m c) := fun o => (kf.alloc o).cell 1
    have t3 : ∀ o, (V3.drew.alloc o).cell? ⟨f0, 3, none⟩ = some (.int .i64 (i : Nat)) := fun o => (kf.alloc o).cell 3
    have v0 : V3.cell? ⟨f0, 0, none⟩ = some (.int .u64 S) := HZ.out.2.2.2.cell 0
    have v1 : V3.cell? ⟨f0, 1, none⟩ = some (.slice a m c) := HZ.out.2.2.2.cell 1
    have v3 : V3.cell? ⟨f0, 3, none⟩ = some (.int .i64 (i : Nat)) := HZ.out.2.2.2.cell 3
    have x0 : ∀ o, (V3.alloc o).cell? ⟨f0, 0, none⟩ = some (.int .u64 S) := fun o => (HZ.out.2.2.2.alloc o).cell 0
    have x1 : ∀ o, (V3.alloc o).cell? ⟨f0, 1, none⟩ = some (.slice a m c) := fun o => (HZ.out.2.2.2.alloc o).cell 1
    have x3 : ∀ o, (V3.alloc o).cell? ⟨f0, 3, none⟩ = some (.int .i64 (i : Nat)) := fun o => (HZ.out.2.2.2.alloc o).cell 3
    have it3 : ItsIn V3.drew a m (decX E) := HZ.out.2.2.1.below bD
    have HD : Hid (ScR q W V3.drew A n C B n cB (l.map (elB zs z)) (l.map (fun i => ((i : Nat) : Int))) ∧ ItsIn V3.drew a m (decX E) ∧ (m ≠ 0 → ∀ y, a.map (·.block) = some y → q < y ∧ ¬ (Value.slice A n C).ownBlock = some y ∧ ¬ (Value.slice B n cB).ownBlock = some y) ∧ n + 1 ≤ 100000 ∧ S = decS E ∧ Blk V3.drew f0 [.int .u64 S, .slice a m c, .int .i64 z, .int .i64 (i : Nat)] 94 ∧ Blk V3.drew e0 [.int .i64 z, .int .i64 ((j : Nat) + 1)] 55 ∧ Blk V3.drew q [.int .i64 z, .int .i64 (i : Nat)] 55) := ⟨scD, it3, hfr, hn, hES, kf, ke, kq⟩
    clear kf ke kq it3 scD hfr hltA hltB hbq hn bD hES hv3
    have HT : Hid ((3 : TypeId) ≠ 47 ∧ (94 : TypeId) ≠ 47 ∧ (55 : TypeId) ≠ 47 ∧ (55 : TypeId) ≠ 3) := ⟨by decide, by decide, by decide, by decide⟩
    have HI : Hid (Blk ((V3.drew.alloc (.cells #[.int .u64 S, .slice a m c] 47)).alloc (.cells #[.int .i64 (i : Nat)] 3)) (V3.heap.size + 1) [.int .i64 (i : Nat)] 3 ∧ Blk ((V3.drew.alloc (.cells #[.int .i64 (i : Nat)] 3)).alloc (.cells #[.int .u64 S, .slice a m c] 47)) V3.heap.size [.int .i64 (i : Nat)] 3) := ⟨Blk.new' (drew_a1 _ _) rfl, (Blk.new' rfl rfl).alloc _⟩
    have HR : Hid (Blk (V3.drew.alloc (.cells #[.int .u64 S, .slice a m c] 47)) V3.heap.size [.int .u64 S, .slice a m c] 47 ∧ Blk ((V3.drew.alloc (.cells #[.int .u64 S, .slice a m c] 47)).alloc (.cells #[.int .i64 (i : Nat)] 3)) V3.heap.size [.int .u64 S, .slice a m c] 47 ∧ Blk ((V3.drew.alloc (.cells #[.int .i64 (i : Nat)] 3)).alloc (.cells #[.int .u64 S, .slice a m c] 47)) (V3.heap.size + 1) [.int .u64 S, .slice a m c] 47) := ⟨Blk.new' rfl rfl, (Blk.new' rfl rfl).alloc _, Blk.new' (drew_a1 _ _) rfl⟩
    go_region_law (first
     | (refine step_rec (E := E) (a := a) (m := m) (c := c) rfl (.tmp 35) (.tmp 38) rfl rfl rfl rfl HD.out.1 ?_ HD.out.2.1 HD.out.2.2.1 HD.out.2.2.2.1 ?_ ?_ ?_
        · first | exact below_a1 _ _ | exact below_a2 _ _ _ | exact below_d1 _ _ | exact below_d2 _ _ _ | exact below_e2 _ _ _
        · refine Eq.trans ?_ (congrArg (fun x => some (Value.int .u64 x)) HD.out.2.2.2.2.1); first | exact HR.out.1.cell 0 | exact HR.out.2.1.cell 0 | exact HR.out.2.2.cell 0
        · first | exact HR.out.1.cell 1 | exact HR.out.2.1.cell 1 | exact HR.out.2.2.cell 1
        intro a9 c9 w9 kb9 k9 sc9
        have kf9 : Blk w9 f0 [.int .u64 S, .slice a m c, .int .i64 z, .int .i64 (i : Nat)] 94 := kb9 _ _ _ HD.out.2.2.2.2.2.1 HT.out.2.1
        have ke9 : Blk w9 e0 [.int .i64 z, .int .i64 ((j : Nat) + 1)] 55 := kb9 _ _ _ HD.out.2.2.2.2.2.2.1 HT.out.2.2.1
        have kq9 : Blk w9 q [.int .i64 z, .int .i64 (i : Nat)] 55 := kb9 _ _ _ HD.out.2.2.2.2.2.2.2 HT.out.2.2.1
        have u9 : w9.cell? ⟨f0, 3, none⟩ = some (.int .i64 (i : Nat)) := kf9.cell 3)
     | (refine step_int (iv := ((i : Nat) : Int)) rfl (.tmp 40) (.tmp 44) rfl rfl rfl rfl sc9 HD.out.2.2.2.1 ?_ ?_
        · first | exact (k9 _ _ _ HI.out.1 HT.out.1).cell 0 | exact (k9 _ _ _ HI.out.2 HT.out.1).cell 0
        intro a8 c8 w8 k8 sc8
        have ke8 : Blk w8 e0 [.int .i64 z, .int .i64 ((j : Nat) + 1)] 55 := k8 _ _ _ ke9 HT.out.2.2.2
        have kq8 : Blk w8 q [.int .i64 z, .int .i64 (i : Nat)] 55 := k8 _ _ _ kq9 HT.out.2.2.2)
     | (refine step_int (iv := ((i : Nat) : Int)) rfl (.tmp 40) (.tmp 44) rfl rfl rfl rfl (sc9.below (below_a1 _ _)) HD.out.2.2.2.1 (World.cell?_alloc_mark ..) ?_
        intro a8 c8 w8 k8 sc8
        have ke8 : Blk w8 e0 [.int .i64 z, .int .i64 ((j : Nat) + 1)] 55 := k8 _ _ _ (ke9.alloc _) HT.out.2.2.2
        have kq8 : Blk w8 q [.int .i64 z, .int .i64 (i : Nat)] 55 := k8 _ _ _ (kq9.alloc _) HT.out.2.2.2))
    all_goals (
     have H8 : Hid (ScR q W w8 a9 (n + 1) c9 a8 (n + 1) c8 (l.map (elB zs z) ++ [E]) (l.map (fun i => ((i : Nat) : Int)) ++ [((i : Nat) : Int)]) ∧ Blk w8 q [.int .i64 z, .int .i64 (i : Nat)] 55) := ⟨sc8, kq8⟩
     have p0 : w8.cell? ⟨e0, 0, none⟩ = some (.int .i64 z) := ke8.cell 0
     have p1 : w8.cell? ⟨e0, 1, none⟩ = some (.int .i64 ((j : Nat) + 1)) := ke8.cell 1
     have y0 : w8.cell? ⟨q, 0, none⟩ = some (.int .i64 z) := kq8.cell 0
     have y1 : w8.cell? ⟨q, 1, none⟩ = some (.int .i64 (i : Nat)) := kq8.cell 1
     have z0 := kq8.frozen 0
     have z1 := kq8.frozen 1
     have H9 : Hid (ScR q W ((w8.setCell ⟨q, 0, none⟩ (.int .i64 z)).setCell ⟨q, 1, none⟩ (.int .i64 ((j : Nat) + 1))) a9 (n + 1) c9 a8 (n + 1) c8 (l.map (elB zs z) ++ [E]) (l.map (fun i => ((i : Nat) : Int)) ++ [((i : Nat) : Int)]) ∧ Blk ((w8.setCell ⟨q, 0, none⟩ (.int .i64 z)).setCell ⟨q, 1, none⟩ (.int .i64 ((j : Nat) + 1))) q [.int .i64 z, .int .i64 ((j : Nat) + 1)] 55) := ⟨(sc8.setQ kq8 HT.out.2.2.1 HT.out.2.2.2 0 _).setQ (kq8.set 0 (.int .i64 z)) HT.out.2.2.1 HT.out.2.2.2 1 _, (kq8.set 0 (.int .i64 z)).set 1 (.int .i64 ((j : Nat) + 1))⟩
     clear sc8 kq8 ke8 sc9 kq9 ke9 kf9 u9 k8 k9 kb9
     go_wp2
     have hlt := way_lt HS.out.1 HJ.out
     have e1 : ((w8.setCell ⟨q, 0, none⟩ (.int .i64 z)).setCell ⟨q, 1, none⟩ (.int .i64 ((j : Nat) + 1))).cell? ⟨q, 1, none⟩ = some (.int .i64 ((j : Nat) + 1)) := H9.out.2.cell 1
     have e2 := HS.out.2.2.2.1
     have eE : elB zs z i = E := by
      unfold elB
      rw [HF.out.1]
      rfl
     refine ⟨⟨l ++ [i], j + 1, n + 1, c9, c8, a9, a8, rfl, rfl, way_next HS.out.1 HJ.out, ?_, ?_, ?_⟩, ?_⟩
     ·rw [List.map_append, List.map_append]
      simp only [List.map_cons, List.map_nil, eE]
      exact H9.out.1
     ·rw [show ((j + 1 : Nat) : Int) = (j : Int) + 1 by omega]
      exact H9.out.2
     ·have := HS.out.2.2.2.2
      omega
     ·rw [e1, e2]
      simp [intOf]
      omega)
   ·have hre : recEnd zs z i = none := by
     unfold recEnd
     rw [HF.out.1]
     exact hN
    have HR : Hid (scanL zs z = l ∧ ScR q W w2 A n C B n cB (l.map (elB zs z)) (l.map (fun i => ((i : Nat) : Int)))) := ⟨way_end HS.out.1 hre, HS.out.2.1.below (HY.out.2.1.trans (hb2.mono HY.out.2.1.size))⟩
    clear hN hre hb2
    go_wp2
    go_ret2
    refine ⟨A, C, B, cB, n, rfl, ?_⟩
    rw [HR.out.1, ← HQ.out]
    exact HR.out.2.below ((Below.refl _ _).alloc (Nat.le_refl _) _)
  ·have hre : recEnd zs z i = none := by
    unfold recEnd
    rw [hN]
   have HR : Hid (scanL zs z = l ∧ ScR q W w1 A n C B n cB (l.map (elB zs z)) (l.map (fun i => ((i : Nat) : Int)))) := ⟨way_end HS.out.1 hre, HS.out.2.1.below hb1⟩
   clear hN hre hb1
   go_wp2
   go_ret2
   refine ⟨A, C, B, cB, n, rfl, ?_⟩
   rw [HR.out.1, ← HQ.out]
   exact HR.out.2.below ((Below.refl _ _).alloc (Nat.le_refl _) _)
end
end
section
/-- Of places those that have a block, in a map. -/
def heldS (zs : List Zn) (l : List Pl) : List Pl := l.foldl (fun S x => if (blkZ zs x.2).isSome = true then putS S x else S) []
theorem held_snoc {zs : List Zn} {l : List Pl} {i : Nat} {x : Pl} (h : l[i]? = some x) : heldS zs (l.take (i + 1)) = if (blkZ zs x.2).isSome = true then putS (heldS zs (l.take i)) x else heldS zs (l.take i) := by
 unfold heldS
 rw [take_snoc h, List.foldl_append]
 rfl
section
variable {O : Nat → Prop} {W : World} {p : Nat} {s : Sh} {zs : List Zn}
set_option maxHeartbeats 2000000 in
theorem oheld_of (a : Option Addr) (n c : Nat) (l : List Pl) (hd : Dv 105 O W p s zs) (hw : Wf s zs) (hl : KIn W a n l) (hn : n ≤ 10000) :
  Calls Tryz.prog 48 #[.pointer (some ⟨p, 0, none⟩), .slice a n c] W fun e w' => ∃ m b1 b2 k, e = .returned (.pointer (some ⟨m, 0, none⟩)) ∧ LmP w' m b1 b2 (heldS zs l) k ∧ k ≤ n ∧ Below W.heap.size W w' ∧ W.heap.size ≤ m ∧ W.heap.size ≤ b1 ∧ W.heap.size ≤ b2 := by
 have hN := mNew_of W
 have HR : Hid (∀ V (x : Pr), Below W.heap.size W V → Calls Tryz.prog 13 #[.pointer (some ⟨p, 0, none⟩), .agg #[.int .i64 x.1, .int .i64 x.2]] V fun e w' => ∃ h, e = .returned (.tuple #[h, .int .u16 (rdE zs x.1 x.2)]) ∧ Below V.heap.size V w') := fun V x hV => by
  refine (read_of x.1 x.2 (hd.later hV) hw).mono ?_
  rintro e w' ⟨h, rfl, _, hb⟩
  exact ⟨h, rfl, hb⟩
 have HL : Hid (KIn W a n l ∧ l.length = n ∧ n ≤ 10000) := ⟨hl, hl.1, hn⟩
 clear hd hw hl hn
 go_enter Tryz.func48, Tryz.ntmps48
 go_wp2_with (go_at_call 65; refine hN.mono ?_; rintro e V ⟨m, b1, b2, rfl, hm, hb, k0, k1, k2⟩)
 have HV : Hid (LmP V m b1 b2 [] 0 ∧ Below W.heap.size W V ∧ W.heap.size ≤ m ∧ W.heap.size ≤ b1 ∧ W.heap.size ≤ b2) := ⟨hm, hb, k0, k1, k2⟩
 clear hm hb k0 k1 k2 hN
 go_loopw [13] (fun x wr => ∃ k j : Nat, x = .int .i64 k ∧ k ≤ n ∧ j ≤ k ∧ LmP wr m b1 b2 (heldS zs (l.take k)) j ∧ Below W.heap.size W wr) (fun x _ => n - (intOf x).toNat)
 case atStart => exact ⟨0, 0, rfl, Nat.zero_le _, Nat.le_refl _, HV.out.1, HV.out.2.1⟩
 case round =>
  obtain ⟨k, j, rfl, hk, hj, hm, hb⟩ := hrel
  obtain ⟨_, hln, hn⟩ := HL.out
  rcases Nat.lt_or_ge k n with hlt | hge
  ·have hk' : (k : Int) < n := by omega
   have hwk : IntKind.i64.wrap ((k : Int) + 1) = (k : Int) + 1 := by rw [IntKind.wrap_i64]; omega
   obtain ⟨x, bb, off, hx, hfx, rfl, y0, y1, y2, y3⟩ := (HL.out.1.below hb).at4 hlt
   have bA := below_a1 wr (.cells #[.int .u32 x.1.1, .int .u64 x.1.2, .int .i64 x.2.1, .int .i64 x.2.2] 131)
   have HA : Hid (LmP (wr.alloc (.cells #[.int .u32 x.1.1, .int .u64 x.1.2, .int .i64 x.2.1, .int .i64 x.2.2] 131)) m b1 b2 (heldS zs (l.take k)) j ∧ Below W.heap.size W (wr.alloc (.cells #[.int .u32 x.1.1, .int .u64 x.1.2, .int .i64 x.2.1, .int .i64 x.2.2] 131)) ∧ Blk (wr.alloc (.cells #[.int .u32 x.1.1, .int .u64 x.1.2, .int .i64 x.2.1, .int .i64 x.2.2] 131)) wr.heap.size [.int .u32 x.1.1, .int .u64 x.1.2, .int .i64 x.2.1, .int .i64 x.2.2] 131 ∧ l[k]? = some x ∧ FitsP x) := ⟨hm.alloc _, hb.trans (bA.mono hb.size), Blk.new' rfl rfl, hx, hfx⟩
   clear hm hb bA hx hfx
   go_wp2_with fail
   generalize World.alloc wr _ = Y at HA ⊢
   generalize wr.heap.size = ga at HA ⊢
   refine (HR.out Y x.2 HA.out.2.1).mono ?_
   rintro e w1 ⟨h, rfl, hb1⟩
   have kg := HA.out.2.2.1.below hb1 HA.out.2.2.1.lt
   have hm1 := HA.out.1.below hb1
   have hbW := HA.out.2.1.trans (hb1.mono HA.out.2.1.size)
   have g0 : w1.cell? ⟨ga, 0, none⟩ = some (.int .u32 x.1.1) := kg.cell 0
   have g1 : w1.cell? ⟨ga, 1, none⟩ = some (.int .u64 x.1.2) := kg.cell 1
   have g2 : w1.cell? ⟨ga, 2, none⟩ = some (.int .i64 x.2.1) := kg.cell 2
   have g3 : w1.cell? ⟨ga, 3, none⟩ = some (.int .i64 x.2.2) := kg.cell 3
   have HP : Hid (Calls Tryz.prog 66 #[.pointer (some ⟨m, 0, none⟩), .agg #[.int .u32 x.1.1, .int .u64 x.1.2, .int .i64 x.2.1, .int .i64 x.2.2]] w1 fun e w' => e = .returned (.tuple #[]) ∧ LmP w' m b1 b2 (putS (heldS zs (l.take k)) x) (j + 1) ∧ Below W.heap.size W w') := by
    refine (mPut_of m b1 b2 _ j x w1 hm1 HA.out.2.2.2.2 (by omega)).mono ?_
    rintro e w' ⟨rfl, h1, h2⟩
    refine ⟨rfl, h1, hbW.trans (h2.below hbW.size (fun y hy => ?_))⟩
    rcases hy with rfl | rfl
    ·exact HV.out.2.2.2.1
    ·exact HV.out.2.2.2.2
   have HS := held_snoc (zs := zs) HA.out.2.2.2.1
   cases hB : blkZ zs x.2 with
   | none =>
    have hE := rd_none hB
    obtain ⟨E0, hE0⟩ : ∃ E0, E0 = rdE zs x.2.1 x.2.2 := ⟨_, rfl⟩
    rw [← hE0] at hE ⊢
    have hE1 : (E0 == 0) = false := by have : E0 ≠ 0 := by omega
                                       simp [this]
    rw [hB] at HS
    have HK : Hid (heldS zs (l.take (k + 1)) = heldS zs (l.take k) ∧ LmP w1 m b1 b2 (heldS zs (l.take k)) j ∧ Below W.heap.size W w1) := ⟨by rw [HS]; rfl, hm1, hbW⟩
    clear HS hB hE hE0 hm1 hbW kg hb1
    go_wp2
    exact ⟨⟨k + 1, j, by simp, by omega, by omega, by rw [HK.out.1]; exact HK.out.2.1, HK.out.2.2⟩, by simp [intOf]; omega⟩
   | some E =>
    have hE := (rd_some hB).1
    rw [hE]
    rw [hB] at HS
    have HK : Hid (heldS zs (l.take (k + 1)) = putS (heldS zs (l.take k)) x) := by show _ = _; rw [HS]; rfl
    clear HS hB hE hm1 hbW kg hb1
    go_wp2_with (go_at_call 66; refine HP.out.mono ?_; rintro e w2 ⟨rfl, hm2, hb2⟩)
    exact ⟨⟨k + 1, j + 1, by simp, by omega, by omega, by rw [HK.out]; exact hm2, hb2⟩, by simp [intOf]; omega⟩
  ·obtain rfl : k = n := by omega
   rw [List.take_of_length_le (by omega)] at hm
   have HF : Hid (LmP wr m b1 b2 (heldS zs l) j ∧ j ≤ k ∧ Below W.heap.size W wr) := ⟨hm, hj, hb⟩
   clear hm hb
   go_wp2
   go_ret
   exact ⟨m, b1, b2, j, rfl, HF.out.1, HF.out.2.1, HF.out.2.2, HV.out.2.2⟩
end
end
section
/-- The log's zones below one that have a block. -/
def fullTo (zs : List Zn) : Nat → List Int
 | 0 => []
 | k + 1 => if 2 ≤ k ∧ 0 < (atZ zs (k : Nat)).1.length then fullTo zs k ++ [(k : Int)] else fullTo zs k
theorem fullTo_len (zs : List Zn) : ∀ k, (fullTo zs k).length ≤ k
 | 0 => Nat.le_refl _
 | k + 1 => by
  have := fullTo_len zs k
  unfold fullTo
  split
  ·rw [List.length_append, List.length_singleton]
   omega
  ·omega
theorem fullTo_two (zs : List Zn) : fullTo zs 2 = [] := by
 unfold fullTo fullTo fullTo
 rw [if_neg (by omega), if_neg (by omega)]
theorem fullTo_yes {zs : List Zn} {k : Nat} (h : 2 ≤ k) (h2 : 0 < (atZ zs (k : Nat)).1.length) : fullTo zs (k + 1) = fullTo zs k ++ [(k : Int)] := by
 show (if _ then _ else _) = _
 rw [if_pos ⟨h, h2⟩]
theorem fullTo_no {zs : List Zn} {k : Nat} (h2 : (atZ zs (k : Nat)).1.length = 0) : fullTo zs (k + 1) = fullTo zs k := by
 show (if _ then _ else _) = _
 rw [if_neg (by omega)]
theorem Tryz.shape_o (z zb b r : Value) : ∀ w : World, (Instr.field 23 (.agg #[z, zb, b, r]) 0).run Tryz.prog w = .ok z w := fun _ => by kernel_rfl
section
variable {O : Nat → Prop} {W : World} {p : Nat} {s : Sh} {zs : List Zn}
set_option maxHeartbeats 2000000 in
theorem ofull_of (hd : Dv 105 O W p s zs) (hw : Wf s zs) :
  Calls Tryz.prog 53 #[.pointer (some ⟨p, 0, none⟩)] W fun e w' => ∃ A n C, e = .returned (.slice A n C) ∧ w'.ownsRow W.heap.size 3 1 (.slice A n C) n (kInts .i64 (fullTo zs zs.length)) ∧ n = (fullTo zs zs.length).length ∧ Below W.heap.size W w' := by
 obtain ⟨Z, hZ⟩ : ∃ Z : Nat, s.z = Z := ⟨s.z.toNat, by have := hw.right.1; omega⟩
 have hZl : zs.length = Z := by have := hw.len; omega
 have hZ6 : 6 ≤ Z ∧ Z ≤ 256 := by have := hw.right.1; have := hw.right.2.1; omega
 have HSh : Hid (∀ V, Below W.heap.size W V → Calls Tryz.prog 28 #[.pointer (some ⟨p, 0, none⟩)] V fun e w' => e = .returned (.agg #[.int .i64 (Z : Nat), .int .i64 s.zb, .int .i64 s.b, .int .i64 s.r]) ∧ Below V.heap.size V w') := fun V hV => by rw [← hZ]; exact dshape_of (hd.later hV)
 have HAt : Hid (∀ V (z : Nat), Below W.heap.size W V → Calls Tryz.prog 12 #[.pointer (some ⟨p, 0, none⟩), .int .i64 (z : Nat)] V fun e w' => ∃ d, e = .returned (.tuple #[.int .i64 ((atZ zs (z : Nat)).1.length : Nat), .int .i64 d]) ∧ Below V.heap.size V w') := fun V z hV => by
  refine (at_of (z : Nat) (hd.later hV)).mono ?_
  rintro e w' ⟨rfl, hb⟩
  exact ⟨_, rfl, hb⟩
 have hfn := Tryz.shape_o (.int .i64 (Z : Nat)) (.int .i64 s.zb) (.int .i64 s.b) (.int .i64 s.r)
 rw [hZl]
 clear hd hw hZ hZl
 go_enter Tryz.func53, Tryz.ntmps53
 go_wp2_with fail
 go_loopw [3, 4] (fun v x wr => ∃ (k n C : Nat) (A : Option Addr), x = .int .i64 k ∧ v = .slice A n C ∧ 2 ≤ k ∧ k ≤ Z ∧ n = (fullTo zs k).length ∧ wr.ownsRow W.heap.size 3 1 (.slice A n C) n (kInts .i64 (fullTo zs k)) ∧ Below W.heap.size W wr) (fun _ x _ => Z - (intOf x).toNat)
 case atStart => exact ⟨2, 0, 0, none, rfl, rfl, Nat.le_refl _, by omega, by rw [fullTo_two]; rfl, by rw [fullTo_two]; exact World.ownsRow_nil _ _ _ _, Below.refl _ _⟩
 case round =>
  obtain ⟨k, n, C, A, rfl, rfl, h2, hk, hn, ow, hb⟩ := hrel
  have hnk := fullTo_len zs k
  rcases Nat.lt_or_ge k Z with hlt | hge
  ·have hk' : (k : Int) < Z := by omega
   have hwk : IntKind.i64.wrap ((k : Int) + 1) = (k : Int) + 1 := by rw [IntKind.wrap_i64]; omega
   obtain ⟨L, hL⟩ : ∃ L, L = (atZ zs (k : Nat)).1.length := ⟨_, rfl⟩
   have H0 : Hid (Below W.heap.size W wr ∧ wr.ownsRow W.heap.size 3 1 (.slice A n C) n (kInts .i64 (fullTo zs k)) ∧ n ≤ k ∧ 2 ≤ k ∧ k ≤ 256 ∧ n = (fullTo zs k).length) := ⟨hb, ow, by omega, h2, by omega, hn⟩
   have HA : Hid (∀ V, Below W.heap.size W V → Calls Tryz.prog 12 #[.pointer (some ⟨p, 0, none⟩), .int .i64 (k : Nat)] V fun e w' => ∃ d, e = .returned (.tuple #[.int .i64 (L : Nat), .int .i64 d]) ∧ Below V.heap.size V w') := fun V hV => by rw [hL]; exact HAt.out V k hV
   clear hb ow hn hnk
   by_cases h0 : L = 0
   ·have hn0 : ¬ (0 : Int) < (L : Int) := by omega
    have HF : Hid (fullTo zs (k + 1) = fullTo zs k) := fullTo_no (by omega)
    clear h0 hL
    go_wp2_with (first
     | (go_at_call 28; refine (HSh.out _ H0.out.1).mono ?_; rintro e w1 ⟨rfl, hb1⟩; have hbW1 := H0.out.1.trans (hb1.mono H0.out.1.size))
     | (go_at_call 12; refine (HA.out _ hbW1).mono ?_; rintro e w2 ⟨d, rfl, hb2⟩))
    have hb12 := hb1.trans (hb2.mono hb1.size)
    exact ⟨⟨k + 1, n, C, A, by simp, rfl, by omega, by omega, by rw [HF.out]; exact H0.out.2.2.2.2.2, by rw [HF.out]; exact own_belowN H0.out.2.1 hb12 (Nat.le_refl _), H0.out.1.trans (hb12.mono H0.out.1.size)⟩, by simp [intOf]; omega⟩
   ·have hn0 : (0 : Int) < (L : Int) := by omega
    have HF : Hid (fullTo zs (k + 1) = fullTo zs k ++ [(k : Int)]) := fullTo_yes h2 (by omega)
    clear h0 hL
    go_wp2_with (first
     | (go_at_call 28; refine (HSh.out _ H0.out.1).mono ?_; rintro e w1 ⟨rfl, hb1⟩; have hbW1 := H0.out.1.trans (hb1.mono H0.out.1.size))
     | (go_at_call 12; refine (HA.out _ hbW1).mono ?_; rintro e w2 ⟨d, rfl, hb2⟩; have hb12 := (hb1.trans (hb2.mono hb1.size)).trans ((below_a1 w2 (.cells #[.int .i64 (k : Nat)] 3)).mono (Nat.le_trans hb1.size hb2.size)); have ow2 := own_belowN H0.out.2.1 hb12 (Nat.le_refl _); obtain ⟨a9, c9, w9, e9, o9, b9, _⟩ := run_app1 (ty := 38) Tryz.underlying38 Tryz.zero_int rfl (by decide) W.heap.size A n C _ ow2 w2.heap.size 1 (.int .i64 (k : Nat)) (World.cell?_alloc_mark ..) rfl (by have h1 := H0.out.2.2.1; have h2 := H0.out.2.2.2.2.1; omega) (Nat.le_trans H0.out.1.size hb12.size))
     | (at_builtin; refine wpList_append_run rfl _ _ 38 38 rfl _ _ rfl rfl _ _ e9 ?_))
    have HZ : Hid (w9.ownsRow W.heap.size 3 1 (.slice a9 (n + 1) c9) (n + 1) (kInts .i64 (fullTo zs (k + 1))) ∧ Below W.heap.size W w9 ∧ n + 1 = (fullTo zs (k + 1)).length) := ⟨by rw [HF.out]; simpa [kInts] using o9, (H0.out.1.trans (hb12.mono H0.out.1.size)).trans b9, by rw [HF.out, List.length_append, ← H0.out.2.2.2.2.2]; rfl⟩
    clear e9 o9 b9 ow2 hb12
    first
     | exact ⟨⟨k + 1, n + 1, c9, a9, by simp, rfl, by omega, by omega, HZ.out.2.2, HZ.out.1, HZ.out.2.1⟩, by simp [intOf]; omega⟩
     | trace_state
  ·obtain rfl : k = Z := by omega
   have hk' : ¬ (k : Int) < k := by omega
   have HF : Hid (wr.ownsRow W.heap.size 3 1 (.slice A n C) n (kInts .i64 (fullTo zs k)) ∧ n = (fullTo zs k).length ∧ Below W.heap.size W wr) := ⟨ow, hn, hb⟩
   clear ow hn hb
   go_wp2_with (go_at_call 28; refine (HSh.out _ HF.out.2.2).mono ?_; rintro e w1 ⟨rfl, hb1⟩)
   go_ret
   exact ⟨A, n, C, rfl, own_belowN HF.out.1 hb1 (Nat.le_refl _), HF.out.2.1, HF.out.2.2.trans (hb1.mono HF.out.2.2.size)⟩
end
end
end Go.Proofs.YtcdnjeiamihhbabGreat
