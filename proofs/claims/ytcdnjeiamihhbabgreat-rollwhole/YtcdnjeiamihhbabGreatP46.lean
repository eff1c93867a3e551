/- P46 -/
import Derived.Test.YtcdnjeiamihhbabGreatP45
import Derived.Test.YtcdnjeiamihhbabGreatP41
set_option linter.unusedVariables false
set_option maxRecDepth 4000
namespace Go.Proofs.YtcdnjeiamihhbabGreat
open Go.RowKit
section
/-- What a call of end tells. -/
def EndGot (W : World) (zs : List Zn) (z : Int) (X : List It) (i : Nat) (e : Ending) (w' : World) : Prop := Below W.heap.size W w' ∧ ((∃ j, endM zs z X (i + 1) = some (j + 1) ∧ e = .returned (.tuple #[.agg #[.int .i64 z, .int .i64 ((j : Nat) + 1)], .bool true])) ∨ (endM zs z X (i + 1) = none ∧ e = .returned (.tuple #[.agg #[.int .i64 0, .int .i64 0], .bool false])))
section
variable {O : Nat → Prop} {W : World} {p : Nat} {s : Sh} {zs : List Zn}
set_option maxHeartbeats 4000000 in
theorem oend_of (S z : Int) (i : Nat) (A : Option Addr) (n C : Nat) (X : List It) (hd : Dv 105 O W p s zs) (hw : Wf s zs) (hX : ItsIn W A n X) (hi : i ≤ 100000) (hn : n ≤ 100000) :
  Calls Tryz.prog 37 #[.agg #[.int .u64 S, .slice A n C, .int .i64 z, .int .i64 i], .pointer (some ⟨p, 0, none⟩)] W (EndGot W zs z X i) := by
 obtain ⟨q, hq⟩ : ∃ q, q = W.heap.size := ⟨_, rfl⟩
 have hV0 : Below q W (((W.alloc (.cells #[.int .u64 S, .slice A n C, .int .i64 z, .int .i64 i] 94)).alloc (.cells #[.int .i64 0, .int .i64 0] 55)).alloc (.cells #[.int .i64 z, .int .i64 i] 55)) ∧ Blk (((W.alloc (.cells #[.int .u64 S, .slice A n C, .int .i64 z, .int .i64 i] 94)).alloc (.cells #[.int .i64 0, .int .i64 0] 55)).alloc (.cells #[.int .i64 z, .int .i64 i] 55)) (q + 1) [.int .i64 0, .int .i64 0] 55 ∧ Blk (((W.alloc (.cells #[.int .u64 S, .slice A n C, .int .i64 z, .int .i64 i] 94)).alloc (.cells #[.int .i64 0, .int .i64 0] 55)).alloc (.cells #[.int .i64 z, .int .i64 i] 55)) (q + 1 + 1) [.int .i64 z, .int .i64 i] 55 :=
  ⟨(((Below.refl _ _).alloc (by omega) _).alloc (by simp; omega) _).alloc (by simp; omega) _, (Blk.new' (by simp [hq]) rfl).alloc _, Blk.new' (by simp [hq]) rfl⟩
 have HQ : Hid (q = W.heap.size) := hq
 have HR : Hid (∀ V bn, Below q W V → Calls Tryz.prog 13 #[.pointer (some ⟨p, 0, none⟩), .agg #[.int .i64 z, .int .i64 bn]] V fun e w' => ∃ a n c, e = .returned (.tuple #[.slice a n c, .int .u16 (rdE zs z bn)]) ∧ Below V.heap.size V w' ∧ BIn w' a n (rdB zs z bn)) := fun V bn hV => by
  rw [hq] at hV
  refine (read_of z bn (hd.later hV) hw).mono ?_
  rintro e w' ⟨h, rfl, hk, hb⟩
  obtain ⟨a, c, rfl⟩ := own_slice hk.1
  exact ⟨a, _, c, rfl, hb, hk.bin.1⟩
 have HX : Hid (ItsIn W A n X ∧ X.length = n ∧ i ≤ 100000 ∧ n ≤ 100000) := ⟨hX, hX.1, hi, hn⟩
 clear hd hw hX hi hn
 go_enter Tryz.func37, Tryz.ntmps37
 go_wp2_with fail
 rw [← hq]
 clear hq
 generalize World.alloc (World.alloc (World.alloc W _) _) _ = V at hV0 ⊢
 have HV : Hid (Below q W V ∧ Blk V (q + 1) [.int .i64 0, .int .i64 0] 55 ∧ Blk V (q + 1 + 1) [.int .i64 z, .int .i64 i] 55) := hV0
 clear hV0
 go_loopw [17] (fun x wr => ∃ k j : Nat, x = .int .i64 k ∧ k ≤ n ∧ j ≤ i + k ∧ endM zs z X (i + 1) = endM zs z (X.drop k) (j + 1) ∧ Below q W wr ∧ Blk wr (q + 1) [.int .i64 0, .int .i64 0] 55 ∧ Blk wr (q + 1 + 1) [.int .i64 z, .int .i64 j] 55) (fun x _ => n - (intOf x).toNat)
 case atStart => exact ⟨0, i, rfl, Nat.zero_le _, Nat.le_refl _, rfl, HV.out⟩
 case round =>
  obtain ⟨k, j, rfl, hk, hj, he, hb, b1, b2⟩ := hrel
  obtain ⟨_, hxl, hi5, hn5⟩ := HX.out
  rcases Nat.lt_or_ge k n with hlt | hge
  ·have hk' : (k : Int) < n := by omega
   have hwk : IntKind.i64.wrap ((k : Int) + 1) = (k : Int) + 1 := by rw [IntKind.wrap_i64]; omega
   have hwj : IntKind.i64.wrap ((j : Int) + 1) = (j : Int) + 1 := by rw [IntKind.wrap_i64]; omega
   obtain ⟨x, hx⟩ : ∃ x, X[k]? = some x := ⟨X[k]'(by omega), by simp⟩
   have hits := HX.out.1.below (by rw [← HQ.out]; exact hb)
   have hfx := hits.2.2.1 x (List.mem_of_getElem? hx)
   obtain ⟨bb, off, rfl, hc⟩ := hits.2.2.2.resolve_left (by omega)
   obtain ⟨t, u, kd, sm, en⟩ := x
   have y0 : wr.cell? ⟨bb, off + k * 5 + 0, none⟩ = some (.int .u32 t) := hc k _ hx 0 _ rfl
   have y1 : wr.cell? ⟨bb, off + k * 5 + 1, none⟩ = some (.int .u64 u) := hc k _ hx 1 _ rfl
   have y2 : wr.cell? ⟨bb, off + k * 5 + 2, none⟩ = some (.int .u8 kd) := hc k _ hx 2 _ rfl
   have y3 : wr.cell? ⟨bb, off + k * 5 + 3, none⟩ = some (.int .u32 sm) := hc k _ hx 3 _ rfl
   have y4 : wr.cell? ⟨bb, off + k * 5 + 4, none⟩ = some (.int .u16 en) := hc k _ hx 4 _ rfl
   simp only [Nat.add_zero] at y0
   have hdr : X.drop k = ⟨t, u, kd, sm, en⟩ :: X.drop (k + 1) := by
    obtain ⟨h, e⟩ := List.getElem?_eq_some_iff.1 hx
    rw [List.drop_eq_getElem_cons h, e]
   have a0 : ∀ o, (wr.alloc o).cell? ⟨q + 1 + 1, 0, none⟩ = some (.int .i64 z) := fun o => (b2.alloc o).cell 0
   have a1 : ∀ o, (wr.alloc o).cell? ⟨q + 1 + 1, 1, none⟩ = some (.int .i64 j) := fun o => (b2.alloc o).cell 1
   have z1 : ∀ o, (wr.alloc o).frozen? ⟨q + 1 + 1, 1, none⟩ = false := fun o => (b2.alloc o).frozen 1
   have hqw : q ≤ wr.heap.size := by have := b1.lt; omega
   have HK : Hid (endM zs z X (i + 1) = endM zs z (⟨t, u, kd, sm, en⟩ :: X.drop (k + 1)) (j + 1) ∧ Below q W wr ∧ Blk wr (q + 1) [.int .i64 0, .int .i64 0] 55 ∧ Blk wr (q + 1 + 1) [.int .i64 z, .int .i64 j] 55 ∧ It.Fits ⟨t, u, kd, sm, en⟩) := ⟨by rw [he, hdr], hb, b1, b2, hfx⟩
   clear he hb b1 b2 hits hfx hc hx hdr
   by_cases hkd : kd = 1
   ·have HKd : Hid (kd = 1) := hkd
    have hne : (kd != 1) = false := by rw [hkd]; rfl
    clear hkd
    have HY0 : Below q W ((wr.alloc (.cells #[.int .u32 t, .int .u64 u, .int .u8 kd, .int .u32 sm, .int .u16 en] 50)).setCell ⟨q + 1 + 1, 1, none⟩ (.int .i64 ((j : Int) + 1))) ∧ Blk ((wr.alloc (.cells #[.int .u32 t, .int .u64 u, .int .u8 kd, .int .u32 sm, .int .u16 en] 50)).setCell ⟨q + 1 + 1, 1, none⟩ (.int .i64 ((j : Int) + 1))) (q + 1) [.int .i64 0, .int .i64 0] 55 ∧ Blk ((wr.alloc (.cells #[.int .u32 t, .int .u64 u, .int .u8 kd, .int .u32 sm, .int .u16 en] 50)).setCell ⟨q + 1 + 1, 1, none⟩ (.int .i64 ((j : Int) + 1))) (q + 1 + 1) [.int .i64 z, .int .i64 ((j : Int) + 1)] 55 ∧ Blk ((wr.alloc (.cells #[.int .u32 t, .int .u64 u, .int .u8 kd, .int .u32 sm, .int .u16 en] 50)).setCell ⟨q + 1 + 1, 1, none⟩ (.int .i64 ((j : Int) + 1))) wr.heap.size [.int .u32 t, .int .u64 u, .int .u8 kd, .int .u32 sm, .int .u16 en] 50 :=
     ⟨(HK.out.2.1.alloc hqw _).setCell (p := ⟨q + 1 + 1, 1, none⟩) (by show q ≤ q + 1 + 1; omega) _, (HK.out.2.2.1.alloc _).set_other (a := ⟨q + 1 + 1, 1, none⟩) (by show q + 1 ≠ q + 1 + 1; omega) _, (HK.out.2.2.2.1.alloc _).set 1 _, (Blk.new' rfl rfl).set_other (a := ⟨q + 1 + 1, 1, none⟩) (by show wr.heap.size ≠ q + 1 + 1; have := HK.out.2.2.2.1.lt; omega) _⟩
    go_wp2_with fail
    generalize World.setCell (World.alloc wr _) _ _ = Y at HY0 ⊢
    obtain ⟨ga, hga⟩ : ∃ ga, ga = wr.heap.size := ⟨_, rfl⟩
    rw [← hga] at HY0 ⊢
    have HY : Hid (Below q W Y ∧ Blk Y (q + 1) [.int .i64 0, .int .i64 0] 55 ∧ Blk Y (q + 1 + 1) [.int .i64 z, .int .i64 ((j : Int) + 1)] 55 ∧ Blk Y ga [.int .u32 t, .int .u64 u, .int .u8 kd, .int .u32 sm, .int .u16 en] 50) := HY0
    clear HY0 hga y0 y1 y2 y3 y4 a0 a1 z1
    have hR := HR.out Y ((j : Int) + 1) HY.out.1
    refine hR.mono ?_
    rintro e w3 ⟨da, dn, dc, rfl, hb3, hdb⟩
    have k1 := HY.out.2.1.below hb3 HY.out.2.1.lt
    have k2 := HY.out.2.2.1.below hb3 HY.out.2.2.1.lt
    have k3 := HY.out.2.2.2.below hb3 HY.out.2.2.2.lt
    have hqY : q ≤ Y.heap.size := by have := HY.out.2.1.lt; omega
    have H3 : Hid (Below q W w3 ∧ Blk w3 (q + 1) [.int .i64 0, .int .i64 0] 55 ∧ Blk w3 (q + 1 + 1) [.int .i64 z, .int .i64 ((j : Int) + 1)] 55 ∧ BIn w3 da dn (rdB zs z ((j : Int) + 1)) ∧ q ≤ w3.heap.size) := ⟨HY.out.1.trans (hb3.mono hqY), k1, k2, hdb, by have := k1.lt; omega⟩
    have g0 : w3.cell? ⟨ga, 0, none⟩ = some (.int .u32 t) := k3.cell 0
    have g1 : w3.cell? ⟨ga, 1, none⟩ = some (.int .u64 u) := k3.cell 1
    have g2 : w3.cell? ⟨ga, 2, none⟩ = some (.int .u8 kd) := k3.cell 2
    have g3 : w3.cell? ⟨ga, 3, none⟩ = some (.int .u32 sm) := k3.cell 3
    have g4 : w3.cell? ⟨ga, 4, none⟩ = some (.int .u16 en) := k3.cell 4
    have hCk := check_of ⟨t, u, kd, sm, en⟩ da dn dc (rdB zs z ((j : Int) + 1)) w3 HK.out.2.2.2.2 hdb
    have HCk : Hid (Calls Tryz.prog 14 #[.agg #[.int .u32 t, .int .u64 u, .int .u8 kd, .int .u32 sm, .int .u16 en], .slice da dn dc] w3 fun e w' => e = .returned (.bool (checkB ⟨t, u, kd, sm, en⟩ (rdB zs z ((j : Int) + 1)))) ∧ Below w3.heap.size w3 w') := hCk
    have hcast : ((j : Int) + 1) = ((j + 1 : Nat) : Int) := by omega
    cases hB : blkZ zs (z, (j : Int) + 1) with
    | none =>
     have hE := rd_none hB
     simp only at hE
     obtain ⟨E0, hE0⟩ : ∃ E0, E0 = rdE zs z ((j : Int) + 1) := ⟨_, rfl⟩
     rw [← hE0] at hE ⊢
     have hE1 : (E0 != 0) = true := by have : E0 ≠ 0 := by omega
                                       simp [this]
     have HN : Hid (endM zs z X (i + 1) = none) := by
      show _ = _
      rw [HK.out.1]
      exact endM_bad HKd.out (fun b hb => by rw [← hcast, hB] at hb; cases hb)
     have c0 : w3.cell? ⟨q + 1, 0, none⟩ = some (.int .i64 0) := k1.cell 0
     have c1 : w3.cell? ⟨q + 1, 1, none⟩ = some (.int .i64 0) := k1.cell 1
     have f0 := k1.frozen 0
     have f1 := k1.frozen 1
     clear hE hE0 hB k1 k2 k3 hb3 hdb hR hCk hcast
     go_wp2
     have k5 : Blk _ (q + 1) [.int .i64 0, .int .i64 0] 55 := (H3.out.2.1.set 0 (.int .i64 0)).set 1 (.int .i64 0)
     have b5 := (H3.out.1.setCell (p := ⟨q + 1, 0, none⟩) (by show q ≤ q + 1; omega) (.int .i64 0)).setCell (p := ⟨q + 1, 1, none⟩) (by show q ≤ q + 1; omega) (.int .i64 0)
     exact bodyPost_ret (results_cell_two (p := 4) (u := 5) (ty := 55) rfl _ _ (q + 1) _ _ _ rfl k5 Tryz.underlying55 rfl Tryz.info_addr _ rfl) rfl ⟨by rw [← HQ.out]; exact b5, .inr ⟨HN.out, rfl⟩⟩
    | some b =>
     obtain ⟨hr1, hr2⟩ := rd_some hB
     simp only at hr1 hr2
     rw [hr1]
     rw [hr2] at HCk
     cases hc : checkB ⟨t, u, kd, sm, en⟩ b with
     | true =>
      rw [hc] at HCk
      have HN : Hid (endM zs z X (i + 1) = endM zs z (X.drop (k + 1)) (j + 1 + 1)) := by
       show _ = _
       rw [HK.out.1]
       exact endM_data HKd.out (by rw [← hcast]; exact hB) hc
      clear hB k1 k2 k3 hb3 hdb hR hCk hr1 hr2 hc hcast
      go_wp2_with (go_at_call 14; refine HCk.out.mono ?_; rintro e w4 ⟨rfl, hb4⟩)
      exact ⟨⟨k + 1, j + 1, by simp, by omega, by omega, HN.out, H3.out.1.trans (hb4.mono H3.out.2.2.2.2), H3.out.2.1.below hb4 H3.out.2.1.lt, by rw [show ((j + 1 : Nat) : Int) = (j : Int) + 1 by omega]; exact H3.out.2.2.1.below hb4 H3.out.2.2.1.lt⟩, by simp [intOf]; omega⟩
     | false =>
      rw [hc] at HCk
      have HN : Hid (endM zs z X (i + 1) = none) := by
       show _ = _
       rw [HK.out.1]
       exact endM_bad HKd.out (fun b' hb' => by rw [← hcast, hB] at hb'; cases hb'; exact hc)
      clear hB k1 k2 k3 hb3 hdb hR hCk hr1 hr2 hc hcast
      go_wp2_with (go_at_call 14; refine HCk.out.mono ?_; rintro e w4 ⟨rfl, hb4⟩; have k1 := H3.out.2.1.below hb4 H3.out.2.1.lt; have c0 : w4.cell? ⟨q + 1, 0, none⟩ = some (.int .i64 0) := k1.cell 0; have c1 : w4.cell? ⟨q + 1, 1, none⟩ = some (.int .i64 0) := k1.cell 1; have f0 := k1.frozen 0; have f1 := k1.frozen 1)
      have k5 : Blk _ (q + 1) [.int .i64 0, .int .i64 0] 55 := (k1.set 0 (.int .i64 0)).set 1 (.int .i64 0)
      have b5 := ((H3.out.1.trans (hb4.mono H3.out.2.2.2.2)).setCell (p := ⟨q + 1, 0, none⟩) (by show q ≤ q + 1; omega) (.int .i64 0)).setCell (p := ⟨q + 1, 1, none⟩) (by show q ≤ q + 1; omega) (.int .i64 0)
      exact bodyPost_ret (results_cell_two (p := 4) (u := 5) (ty := 55) rfl _ _ (q + 1) _ _ _ rfl k5 Tryz.underlying55 rfl Tryz.info_addr _ rfl) rfl ⟨by rw [← HQ.out]; exact b5, .inr ⟨HN.out, rfl⟩⟩
   ·have HKd : Hid (kd ≠ 1) := hkd
    have hne : (kd != 1) = true := by simp [hkd]
    clear hkd
    go_wp2
    exact ⟨⟨k + 1, j, by simp, by omega, by omega, by rw [HK.out.1]; exact endM_skip HKd.out, HK.out.2.1.alloc hqw _, HK.out.2.2.1.alloc _, HK.out.2.2.2.1.alloc _⟩, by simp [intOf]; omega⟩
  ·obtain rfl : k = n := by omega
   have hwj : IntKind.i64.wrap ((j : Int) + 1) = (j : Int) + 1 := by rw [IntKind.wrap_i64]; omega
   have a0 : wr.cell? ⟨q + 1 + 1, 0, none⟩ = some (.int .i64 z) := b2.cell 0
   have a1 : wr.cell? ⟨q + 1 + 1, 1, none⟩ = some (.int .i64 j) := b2.cell 1
   have z1 := b2.frozen 1
   have b2' := b2.set 1 (.int .i64 ((j : Int) + 1))
   have b1' := b1.set_other (a := ⟨q + 1 + 1, 1, none⟩) (by show q + 1 ≠ q + 1 + 1; omega) (.int .i64 ((j : Int) + 1))
   have e0 : (wr.setCell ⟨q + 1 + 1, 1, none⟩ (.int .i64 ((j : Int) + 1))).cell? ⟨q + 1 + 1, 0, none⟩ = some (.int .i64 z) := b2'.cell 0
   have e1 : (wr.setCell ⟨q + 1 + 1, 1, none⟩ (.int .i64 ((j : Int) + 1))).cell? ⟨q + 1 + 1, 1, none⟩ = some (.int .i64 ((j : Int) + 1)) := b2'.cell 1
   have c0 : (wr.setCell ⟨q + 1 + 1, 1, none⟩ (.int .i64 ((j : Int) + 1))).cell? ⟨q + 1, 0, none⟩ = some (.int .i64 0) := b1'.cell 0
   have c1 : (wr.setCell ⟨q + 1 + 1, 1, none⟩ (.int .i64 ((j : Int) + 1))).cell? ⟨q + 1, 1, none⟩ = some (.int .i64 0) := b1'.cell 1
   have f0 := b1'.frozen 0
   have f1 := b1'.frozen 1
   have HF : Hid (endM zs z X (i + 1) = some (j + 1) ∧ Below q W wr ∧ Blk (wr.setCell ⟨q + 1 + 1, 1, none⟩ (.int .i64 ((j : Int) + 1))) (q + 1) [.int .i64 0, .int .i64 0] 55) := ⟨by rw [he, List.drop_eq_nil_of_le (by omega)]; rfl, hb, b1'⟩
   clear he hb b1 b2 b1' b2'
   go_wp2
   have k5 : Blk _ (q + 1) [.int .i64 z, .int .i64 ((j : Int) + 1)] 55 := (HF.out.2.2.set 0 (.int .i64 z)).set 1 (.int .i64 ((j : Int) + 1))
   have b5 := ((HF.out.2.1.setCell (p := ⟨q + 1 + 1, 1, none⟩) (by show q ≤ q + 1 + 1; omega) (.int .i64 ((j : Int) + 1))).setCell (p := ⟨q + 1, 0, none⟩) (by show q ≤ q + 1; omega) (.int .i64 z)).setCell (p := ⟨q + 1, 1, none⟩) (by show q ≤ q + 1; omega) (.int .i64 ((j : Int) + 1))
   exact bodyPost_ret (results_cell_two (p := 4) (u := 5) (ty := 55) rfl _ _ (q + 1) _ _ _ rfl k5 Tryz.underlying55 rfl Tryz.info_addr _ rfl) rfl ⟨by rw [← HQ.out]; exact b5, .inl ⟨j, HF.out.1, rfl⟩⟩
end
end
section
def rcC : List (List Int) → List Value → List Value
 | E :: l, v :: vs => .int .u64 (decS E) :: v :: rcC l vs
 | _, _ => []
theorem rcC_snoc : ∀ (l : List (List Int)) (vs : List Value) (E : List Int) (v : Value), vs.length = l.length → rcC (l ++ [E]) (vs ++ [v]) = rcC l vs ++ [.int .u64 (decS E), v]
 | [], [], E, v, _ => rfl
 | D :: l, u :: vs, E, v, h => by
  simp only [List.length_cons, Nat.add_right_cancel_iff] at h
  show _ :: _ :: rcC (l ++ [E]) (vs ++ [v]) = _
  rw [rcC_snoc l vs E v h]
  rfl
 | [], _ :: _, _, _, h => by simp at h
 | _ :: _, [], _, _, h => by simp at h
theorem its_lt {w : World} {a : Option Addr} {n : Nat} {X : List It} (h : ItsIn w a n X) (hn : n ≠ 0) {y : Nat} (hy : a.map (·.block) = some y) : y < w.heap.size := by
 obtain ⟨h1, _, _, h4⟩ := h
 obtain ⟨b, off, rfl, hc⟩ := h4.resolve_left hn
 simp only [Option.map_some, Option.some.injEq] at hy
 subst hy
 obtain ⟨x, hx⟩ : ∃ x, X[0]? = some x := ⟨X[0]'(by omega), by simp⟩
 exact old_block (hc 0 x hx 0 _ rfl)
theorem ItsIn.outO {O : Nat → Prop} {w w' : World} {a : Option Addr} {n : Nat} {X : List It} (h : ItsIn w a n X) (ho : Out O w w') (hn : n ≠ 0 → ∀ y, a.map (·.block) = some y → ¬ O y) : ItsIn w' a n X := by
 obtain ⟨h1, h2, h3, h4⟩ := h
 refine ⟨h1, h2, h3, ?_⟩
 by_cases h0 : n = 0
 ·exact .inl h0
 ·obtain ⟨b, off, rfl, hc⟩ := h4.resolve_left h0
  exact .inr ⟨b, off, rfl, fun i x hx j v hv => ho.cell (hc i x hx j v hv) (hn h0 b rfl)⟩
theorem Tryz.zero_record : (Tryz.prog.info? 47).map (fun i => (i.zero, i.size, i.bytes)) = some (some (.agg #[.int .u64 0, .slice none 0 0]), 2, 32) := by kernel_rfl
/-- Items of records, each in blocks of Z. -/
def RcD (Z : Nat → Prop) (w : World) (l : List (List Int)) (vs : List Value) : Prop := vs.length = l.length ∧ ∀ (i : Nat) (E : List Int) (v : Value), l[i]? = some E → vs[i]? = some v → ∃ a m c, v = .slice a m c ∧ ItsIn w a m (decX E) ∧ (m ≠ 0 → ∀ y, a.map (·.block) = some y → Z y)
theorem RcD.out {Z O : Nat → Prop} {w w' : World} {l : List (List Int)} {vs : List Value} (h : RcD Z w l vs) (ho : Out O w w') (hZ : ∀ y, Z y → ¬ O y) : RcD Z w' l vs := by
 refine ⟨h.1, fun i E v hE hv => ?_⟩
 obtain ⟨a, m, c, rfl, h1, h2⟩ := h.2 i E v hE hv
 exact ⟨a, m, c, rfl, h1.outO ho (fun hm y hy => hZ y (h2 hm y hy)), h2⟩
theorem RcD.wider {Z Z' : Nat → Prop} {w : World} {l : List (List Int)} {vs : List Value} (h : RcD Z w l vs) (hZ : ∀ y, Z y → Z' y) : RcD Z' w l vs := by
 refine ⟨h.1, fun i E v hE hv => ?_⟩
 obtain ⟨a, m, c, rfl, h1, h2⟩ := h.2 i E v hE hv
 exact ⟨a, m, c, rfl, h1, fun hm y hy => hZ y (h2 hm y hy)⟩
theorem RcD.snoc {Z : Nat → Prop} {w : World} {l : List (List Int)} {vs : List Value} {E : List Int} {a : Option Addr} {m c : Nat} (h : RcD Z w l vs) (hi : ItsIn w a m (decX E)) (hz : m ≠ 0 → ∀ y, a.map (·.block) = some y → Z y) : RcD Z w (l ++ [E]) (vs ++ [.slice a m c]) := by
 refine ⟨by rw [List.length_append, List.length_append, h.1]; rfl, fun i D v hD hv => ?_⟩
 rcases Nat.lt_or_ge i l.length with hlt | hge
 ·rw [List.getElem?_append_left hlt] at hD
  rw [List.getElem?_append_left (by rw [h.1]; exact hlt)] at hv
  exact h.2 i D v hD hv
 ·rw [List.getElem?_append_right hge] at hD
  rw [List.getElem?_append_right (by rw [h.1]; exact hge), h.1] at hv
  rcases Nat.eq_zero_or_pos (i - l.length) with e | e
  ·rw [e] at hD hv
   simp only [List.getElem?_cons_zero, Option.some.injEq] at hD hv
   subst hD
   subst hv
   exact ⟨a, m, c, rfl, hi, hz⟩
  ·rw [List.getElem?_eq_none (by simp; omega)] at hD
   cases hD
/-- Records and numbers, in rows of the call's own. -/
structure ScR (q : Nat) (V wr : World) (A : Option Addr) (n C : Nat) (B : Option Addr) (k cB : Nat) (l : List (List Int)) (is : List Int) : Prop where
 ln : l.length = n
 li : is.length = k
 rows : ∃ vs Z, wr.ownsRow 0 47 2 (.slice A n C) n (rcC l vs) ∧ RcD Z wr l vs ∧ (∀ x, Z x → q < x ∧ x < wr.heap.size) ∧ (∀ g, (Value.slice A n C).ownBlock = some g → ¬ Z g) ∧ (∀ g, (Value.slice B k cB).ownBlock = some g → ¬ Z g)
 ints : wr.ownsRow 0 3 1 (.slice B k cB) k (kInts .i64 is)
 hA : ∀ g, (Value.slice A n C).ownBlock = some g → q ≤ g
 hB : ∀ g, (Value.slice B k cB).ownBlock = some g → q ≤ g
 bel : Below q V wr
 qs : q < wr.heap.size
section
variable {q : Nat} {V wr w X : World} {A B : Option Addr} {n C k cB : Nat} {l : List (List Int)} {is : List Int}
theorem ScR.start (V : World) (q : Nat) (hb : Below q V wr) (hw : q < wr.heap.size) : ScR q V wr none 0 0 none 0 0 [] [] := ⟨rfl, rfl, ⟨[], fun _ => False, World.ownsRow_nil _ _ _ _, ⟨rfl, by simp⟩, fun _ h => h.elim, fun _ _ h => h, fun _ _ h => h⟩, World.ownsRow_nil _ _ _ _, (fun g h => by cases h), (fun g h => by cases h), hb, hw⟩
theorem ScR.outO {O : Nat → Prop} (h : ScR q V wr A n C B k cB l is) (ho : Out O wr X) (hO : ∀ x, O x → q ≤ x) (hA : ∀ g, (Value.slice A n C).ownBlock = some g → ¬ O g) (hB : ∀ g, (Value.slice B k cB).ownBlock = some g → ¬ O g) (hno : ∀ x, O x → x ≤ q ∨ wr.heap.size ≤ x) : ScR q V X A n C B k cB l is := by
 obtain ⟨h1, h2, ⟨vs, Z, r1, r2, r3, r4, r5⟩, h4, h5, h6, h7, h8⟩ := h
 have hs := ho.size
 exact ⟨h1, h2, ⟨vs, Z, ho.own r1 hA, r2.out ho (fun y hy hO' => by have := r3 y hy; have := hno y hO'; omega), fun x hx => ⟨(r3 x hx).1, by have := (r3 x hx).2; omega⟩, r4, r5⟩, ho.own h4 hB, h5, h6, h7.trans (ho.below (Nat.le_of_lt h8) hO), by omega⟩
theorem ScR.below (h : ScR q V wr A n C B k cB l is) (hb : Below wr.heap.size wr X) : ScR q V X A n C B k cB l is :=
 h.outO (O := Non) (below_out Non hb) (fun _ e => e.elim) (fun _ _ e => e) (fun _ _ e => e) (fun _ e => e.elim)
theorem ScR.setQ {L : List Value} {t : TypeId} (h : ScR q V w A n C B k cB l is) (hq : Blk w q L t) (h1 : t ≠ 47) (h2 : t ≠ 3) (i : Nat) (v : Value) : ScR q V (w.setCell ⟨q, i, none⟩ v) A n C B k cB l is := by
 refine h.outO (O := fun x => x = q) (out_one w q i v) (fun x hx => by omega) (fun g hg e => ?_) (fun g hg e => ?_) (fun x hx => .inl (by omega))
 ·subst e
  obtain ⟨_, _, ⟨vs, Z, q1, _⟩, _⟩ := h
  exact own_not q1 hq h1 hg
 ·subst e
  exact own_not h.ints hq h2 hg
theorem ScR.ltA (h : ScR q V wr A n C B k cB l is) : ∀ g, (Value.slice A n C).ownBlock = some g → g < wr.heap.size := fun g hg => by
 obtain ⟨_, _, ⟨vs, Z, q1, _⟩, _⟩ := h
 exact (q1.lt g hg).2
theorem ScR.ltB (h : ScR q V wr A n C B k cB l is) : ∀ g, (Value.slice B k cB).ownBlock = some g → g < wr.heap.size := fun g hg => (h.ints.lt g hg).2
/-- One record more. -/
theorem ScR.one {E : List Int} {a : Option Addr} {m c g1 : Nat} (h : ScR q V w A n C B k cB l is) (hi : ItsIn w a m (decX E)) (hf : m ≠ 0 → ∀ y, a.map (·.block) = some y → q < y ∧ ¬ (Value.slice A n C).ownBlock = some y ∧ ¬ (Value.slice B k cB).ownBlock = some y) (hn : n + 1 ≤ 100000)
  (hc0 : w.cell? ⟨g1, 0, none⟩ = some (.int .u64 (decS E))) (hc1 : w.cell? ⟨g1, 1, none⟩ = some (.slice a m c)) :
  ∃ a9 c9 w9, (Builtin.append_ #[37, 37] 37 #[.slice A n C, .slice (some ⟨g1, 0, none⟩) 1 1]).run Tryz.prog w = .ok (.slice a9 (n + 1) c9) w9 ∧ (∀ g L t, Blk w g L t → t ≠ 47 → Blk w9 g L t) ∧ ScR q V w9 a9 (n + 1) c9 B k cB (l ++ [E]) is := by
 have hltA := h.ltA
 obtain ⟨h1, h2, ⟨vs, Z, r1, r2, r3, r4, r5⟩, h4, h5, h6, h7, h8⟩ := h
 obtain ⟨v9, w9, e9, o9, g9, b9⟩ := run_app (e := 47) (t := 37) (ty := 37) (size := 2) (bytes := 32) Tryz.underlying37 Tryz.zero_record rfl (by decide) (by decide) r1 ⟨g1, 0, none⟩ 1 1 [.int .u64 (decS E), .slice a m c] rfl (by
  intro j u hj
  rw [Addr.add_mid, Nat.zero_add]
  match j, hj with
  | 0, hj => cases hj; exact hc0
  | 1, hj => cases hj; exact hc1) (by intro u hu; simp only [List.mem_cons, List.not_mem_nil, or_false] at hu; rcases hu with rfl | rfl <;> rfl) (by omega)
 obtain ⟨a9, c9, rfl⟩ : ∃ a' c', v9 = .slice a' (n + 1) c' := own_slice o9
 have ho9 : Out (fun j => (Value.slice A n C).ownBlock = some j) w w9 := (Out.refl (fun j => (Value.slice A n C).ownBlock = some j) w).grown g9 (fun j hj => .inl hj)
 have hs9 := ho9.size
 have apartAB : ∀ g, (Value.slice B k cB).ownBlock = some g → ¬ (Value.slice A n C).ownBlock = some g := fun g hg e => by
  rcases rows_apart h4 r1 (by decide) with h | h
  ·rw [h] at hg; cases hg
  ·exact h (hg.trans e.symm)
 have bA : ∀ g, (Value.slice a9 (n + 1) c9).ownBlock = some g → (Value.slice A n C).ownBlock = some g ∨ w.heap.size ≤ g := fun g hg => by
  rcases b9 with e | e
  ·exact .inl (by rw [← e]; exact hg)
  ·exact .inr (e g hg)
 refine ⟨a9, c9, w9, e9, fun g L t hg ht => ho9.blk hg (own_not r1 hg ht), ⟨by rw [List.length_append, h1]; rfl, h2, ⟨vs ++ [.slice a m c], fun x => Z x ∨ (m ≠ 0 ∧ a.map (·.block) = some x), ?_, ?_, ?_, ?_, ?_⟩, ho9.own h4 apartAB, ?_, h6, h7.trans (ho9.below (Nat.le_of_lt h8) (fun j hj => h5 j hj)), by omega⟩⟩
 ·rw [rcC_snoc l vs E _ r2.1]
  exact o9
 ·exact RcD.snoc ((r2.out ho9 (fun y hy e => r4 y e hy)).wider (fun x hx => .inl hx)) (hi.outO ho9 (fun hm y hy e => (hf hm y hy).2.1 e)) (fun hm y hy => .inr ⟨hm, hy⟩)
 ·rintro x (hx | ⟨hm, hx⟩)
  ·have := r3 x hx; exact ⟨this.1, by omega⟩
  ·have := its_lt hi hm hx; exact ⟨(hf hm x hx).1, by omega⟩
 ·rintro g hg (hz | ⟨hm, hz⟩)
  ·rcases bA g hg with e | e
   ·exact r4 g e hz
   ·have := (r3 g hz).2; omega
  ·rcases bA g hg with e | e
   ·exact (hf hm g hz).2.1 e
   ·have := its_lt hi hm hz; omega
 ·rintro g hg (hz | ⟨hm, hz⟩)
  ·exact r5 g hg hz
  ·exact (hf hm g hz).2.2 hg
 ·intro g hg
  rcases bA g hg with e | e
  ·exact h5 g e
  ·omega
/-- One number more. -/
theorem ScR.int {g2 : Nat} {iv : Int} (h : ScR q V w A n C B k cB l is) (hn : k + 1 ≤ 100000) (hc2 : w.cell? ⟨g2, 0, none⟩ = some (.int .i64 iv)) :
  ∃ a8 c8 w8, (Builtin.append_ #[38, 38] 38 #[.slice B k cB, .slice (some ⟨g2, 0, none⟩) 1 1]).run Tryz.prog w = .ok (.slice a8 (k + 1) c8) w8 ∧ (∀ g L t, Blk w g L t → t ≠ 3 → Blk w8 g L t) ∧ ScR q V w8 A n C a8 (k + 1) c8 l (is ++ [iv]) := by
 obtain ⟨h1, h2, ⟨vs, Z, r1, r2, r3, r4, r5⟩, h4, h5, h6, h7, h8⟩ := h
 obtain ⟨v8, w8, e8, o8, g8, b8⟩ := run_app (e := 3) (t := 38) (ty := 38) (size := 1) (bytes := 8) Tryz.underlying38 Tryz.zero_int rfl (by decide) (by decide) h4 ⟨g2, 0, none⟩ 1 1 [.int .i64 iv] rfl (by
  intro j u hj
  rw [Addr.add_mid, Nat.zero_add]
  match j, hj with
  | 0, hj => cases hj; exact hc2) (by intro u hu; simp only [List.mem_cons, List.not_mem_nil, or_false] at hu; rw [hu]; rfl) (by omega)
 obtain ⟨a8, c8, rfl⟩ : ∃ a' c', v8 = .slice a' (k + 1) c' := own_slice o8
 have ho8 : Out (fun j => (Value.slice B k cB).ownBlock = some j) w w8 := (Out.refl (fun j => (Value.slice B k cB).ownBlock = some j) w).grown g8 (fun j hj => .inl hj)
 have hs8 := ho8.size
 have apartAB : ∀ g, (Value.slice A n C).ownBlock = some g → ¬ (Value.slice B k cB).ownBlock = some g := fun g hg e => by
  rcases rows_apart r1 h4 (by decide) with h | h
  ·rw [h] at hg; cases hg
  ·exact h (hg.trans e.symm)
 have bB : ∀ g, (Value.slice a8 (k + 1) c8).ownBlock = some g → (Value.slice B k cB).ownBlock = some g ∨ w.heap.size ≤ g := fun g hg => by
  rcases b8 with e | e
  ·exact .inl (by rw [← e]; exact hg)
  ·exact .inr (e g hg)
 refine ⟨a8, c8, w8, e8, fun g L t hg ht => ho8.blk hg (own_not h4 hg ht), ⟨h1, by rw [List.length_append, h2]; rfl, ⟨vs, Z, ho8.own r1 apartAB, r2.out ho8 (fun y hy e => r5 y e hy), fun x hx => ⟨(r3 x hx).1, by have := (r3 x hx).2; omega⟩, r4, ?_⟩, by simpa [kInts] using o8, h5, ?_, h7.trans (ho8.below (Nat.le_of_lt h8) (fun j hj => h6 j hj)), by omega⟩⟩
 ·intro g hg hz
  rcases bB g hg with e | e
  ·exact r5 g e hz
  ·have := (r3 g hz).2; omega
 ·intro g hg
  rcases bB g hg with e | e
  ·exact h6 g e
  ·omega
theorem below_a1 (w : World) (o : Obj) : Below w.heap.size w (w.alloc o) := (Below.refl _ _).alloc (Nat.le_refl _) o
theorem below_a2 (w : World) (o o' : Obj) : Below w.heap.size w ((w.alloc o).alloc o') := (below_a1 w o).alloc (below_a1 w o).size o'
theorem drew_a1 (w : World) (o : Obj) : (w.drew.alloc o).heap.size = w.heap.size + 1 := by simp
theorem below_d1 (w : World) (o : Obj) : Below w.drew.heap.size w.drew (w.alloc o).drew := below_a1 w.drew o
theorem below_d2 (w : World) (o o' : Obj) : Below w.drew.heap.size w.drew ((w.alloc o).alloc o').drew := below_a2 w.drew o o'
theorem below_e2 (w : World) (o o' : Obj) : Below w.drew.heap.size w.drew ((w.alloc o).drew.alloc o') := below_a2 w.drew o o'
theorem step_rec {w0 : World} {ops : Array Oper} {o : Oper} {a0 : Act} {K : Act → World → Prop} {Q : Exit → Act → World → Prop} {F : Prop} {E : List Int} {a : Option Addr} {m c g1 : Nat} (hg : o.guard = none) (s x : Operand)
  (hop : o.op = .call { callee := .builtin .append, args := #[s, x], argTypes := #[37, 37] }) (ht : o.type = 37) (hs : a0.eval s = .slice A n C) (hx : a0.eval x = .slice (some ⟨g1, 0, none⟩) 1 1) (h : ScR q V w0 A n C B k cB l is) (hb : Below w0.heap.size w0 w) (hi : ItsIn w0 a m (decX E)) (hf : m ≠ 0 → ∀ y, a.map (·.block) = some y → q < y ∧ ¬ (Value.slice A n C).ownBlock = some y ∧ ¬ (Value.slice B k cB).ownBlock = some y) (hn : n + 1 ≤ 100000)
  (hc0 : w.cell? ⟨g1, 0, none⟩ = some (.int .u64 (decS E))) (hc1 : w.cell? ⟨g1, 1, none⟩ = some (.slice a m c))
  (hK : ∀ a9 c9 w9, (∀ g L t, Blk w0 g L t → t ≠ 47 → Blk w9 g L t) → (∀ g L t, Blk w g L t → t ≠ 47 → Blk w9 g L t) → ScR q V w9 a9 (n + 1) c9 B k cB (l ++ [E]) is → K (a0.put o.dst (.slice a9 (n + 1) c9)) w9) :
  if Region.wanted o (yielded ops a0.tmps) = true then Oper.wp Tryz.prog o a0 w K Q else F := by
 obtain ⟨a9, c9, w9, e9, k9, s9⟩ := (h.below hb).one (hi.below hb) hf hn hc0 hc1
 exact step_append_run hg s x 37 37 hop _ _ hs hx _ _ (by rw [ht]; exact e9) (hK a9 c9 w9 (fun g L t hg ht => k9 g L t (hg.below hb hg.lt) ht) k9 s9)
theorem step_int {ops : Array Oper} {o : Oper} {a0 : Act} {K : Act → World → Prop} {Q : Exit → Act → World → Prop} {F : Prop} {g2 : Nat} {iv : Int} (hg : o.guard = none) (s x : Operand)
  (hop : o.op = .call { callee := .builtin .append, args := #[s, x], argTypes := #[38, 38] }) (ht : o.type = 38) (hs : a0.eval s = .slice B k cB) (hx : a0.eval x = .slice (some ⟨g2, 0, none⟩) 1 1) (h : ScR q V w A n C B k cB l is) (hn : k + 1 ≤ 100000) (hc2 : w.cell? ⟨g2, 0, none⟩ = some (.int .i64 iv))
  (hK : ∀ a8 c8 w8, (∀ g L t, Blk w g L t → t ≠ 3 → Blk w8 g L t) → ScR q V w8 A n C a8 (k + 1) c8 l (is ++ [iv]) → K (a0.put o.dst (.slice a8 (k + 1) c8)) w8) :
  if Region.wanted o (yielded ops a0.tmps) = true then Oper.wp Tryz.prog o a0 w K Q else F := by
 obtain ⟨a8, c8, w8, e8, k8, s8⟩ := h.int hn hc2
 exact step_append_run hg s x 38 38 hop _ _ hs hx _ _ (by rw [ht]; exact e8) (hK a8 c8 w8 k8 s8)
end
end
end Go.Proofs.YtcdnjeiamihhbabGreat
