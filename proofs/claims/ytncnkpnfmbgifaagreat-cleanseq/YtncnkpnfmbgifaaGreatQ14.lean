/- Texts of this seat, one behind the other: StDr. -/
import Derived.Test.YtncnkpnfmbgifaaGreatQ13
import Derived.Test.YtncnkpnfmbgifaaGreatP22b
import Derived.Test.YtncnkpnfmbgifaaGreatQ2
import Derived.Test.YtncnkpnfmbgifaaGreatQ3
import Derived.Deep.DeepCutAuto
/- What one call of record of the document's store does. -/
namespace Go.Proofs.YtncnkpnfmbgifaaGreat
open Go.RowKit
set_option linter.unusedVariables false
set_option maxRecDepth 4000
def recM (st : St) (z : Int) (l : List Pt) : St :=
 { st with zs := (wrY st z l l.length).1, S := (wrY st z l l.length).2, q := incU st.q, la := st.la.set z.toNat (incU st.q) }
section
variable {D M : Nat → Prop} {W : World} {k : Rs} {st : St}
set_option maxHeartbeats 8000000 in
theorem dsrecord_of (z : Nat) (h : SdV D M W k st) (hz : z < st.zs.length) (a : Option Addr) (n cc : Nat) (l : List Pt) (X : Nat → Prop) (hl : PtsIn X W a n l) (hX : ∀ x, X x → ¬ SdO D M k x ∧ x < W.heap.size) (hS : st.S.length + n ≤ 10000) :
  Calls Tryz.prog 95 #[.pointer (some ⟨k.ps, 0, none⟩), .int .i64 (z : Nat), .slice a n cc] W fun e w' => e = .returned (.tuple #[]) ∧ Sd (SdO D M k) W k (recM st z l) w' ∧ (recM st z l).S.length ≤ st.S.length + n := by
 obtain ⟨c0, c1, c2, c3, c4, c5⟩ := h.cells
 have hq := wrap_inc st.q
 have H : Hid (SdV D M W k st ∧ PtsIn X W a n l ∧ (∀ x, X x → ¬ SdO D M k x ∧ x < W.heap.size) ∧ st.S.length + n ≤ 10000 ∧ z < st.zs.length) := ⟨h, hl, hX, hS, hz⟩
 have hn1 := hl.2.1
 obtain ⟨q, hqe⟩ : ∃ q, q = W.heap.size := ⟨_, rfl⟩
 have HR : Hid (WI q W (W.alloc (.cells #[.int .u64 (incU st.q), .slice none 0 0] 181)) (incU st.q) none 0 0 [] ∧ q = W.heap.size) := ⟨⟨Blk.new' hqe.symm rfl, World.ownsRow_nil _ _ _ _, (Below.refl _ _).alloc (by omega) _⟩, hqe⟩
 clear h hl hX hS hz
 go_enter Tryz.func95, Tryz.ntmps95
 go_wp2_with fail
 rw [← hqe]
 clear hqe c0 c1 c2 c3 c4 c5 hq
 generalize World.alloc W _ = W1 at HR ⊢
 have HP : Hid (∀ V, Below q W V → PtsIn X V a n l) := fun V hb => H.out.2.1.out (below_out' (O := fun j => q ≤ j) hb (fun j h _ => h)) (fun x hx => by have := (H.out.2.2.1 x hx).2; have := HR.out.2; omega)
 go_loopw [7, 8] (fun x _ wr => ∃ (j : Nat) (A : Option Addr) (C : Nat), x = .int .i64 j ∧ j ≤ n ∧ WI q W wr (incU st.q) A j C ((l.take j).map itP)) (fun x _ _ => n - (intOf x).toNat)
 case atStart => exact ⟨0, none, 0, rfl, Nat.zero_le _, by simpa using HR.out.1⟩
 case round =>
  obtain ⟨j, A, C, rfl, hj, hw⟩ := hrel
  rcases Nat.lt_or_ge j n with hlt | hge
  ·have hj' : (j : Int) < n := by omega
   have hwj : IntKind.i64.wrap ((j : Int) + 1) = (j : Int) + 1 := by rw [IntKind.wrap_i64]; omega
   obtain ⟨p, b, off, hp, rfl, hb, A1, L1, C1, hcl, hbin, _, hL1, _, hfit⟩ := (HP.out wr hw.bel).at X hlt
   have x0 : wr.cell? ⟨b, off + j * 4, none⟩ = some (.int .u32 p.t) := hcl 0 _ rfl
   have x1 : wr.cell? ⟨b, off + j * 4 + 1, none⟩ = some (.int .u64 p.b) := hcl 1 _ rfl
   have x2 : wr.cell? ⟨b, off + j * 4 + 2, none⟩ = some (.bool p.x) := hcl 2 _ rfl
   have x3 : wr.cell? ⟨b, off + j * 4 + 3, none⟩ = some (.slice A1 L1 C1) := hcl 3 _ rfl
   obtain ⟨g, hg⟩ : ∃ g, g = wr.heap.size := ⟨_, rfl⟩
   have hbg : b ≠ g := by
    have := old_block x0
    show b ≠ g
    intro e
    rw [hg] at e
    simp at this
    omega
   have xa : ∀ o, (wr.alloc o).cell? ⟨b, off + j * 4, none⟩ = some (.int .u32 p.t) := fun o => (((Below.refl _ _).alloc (Nat.le_refl _) o).cell (old_block x0)).trans x0
   have xb : ∀ o, (wr.alloc o).cell? ⟨b, off + j * 4 + 1, none⟩ = some (.int .u64 p.b) := fun o => (((Below.refl _ _).alloc (Nat.le_refl _) o).cell (old_block x1)).trans x1
   have HN : Hid ((l.take (j + 1)).map itP = (l.take j).map itP ++ [itP p]) := by show _ = _; rw [take_snoc hp]; simp
   have HW : Hid (WI q W wr (incU st.q) A j C ((l.take j).map itP) ∧ g = wr.heap.size) := ⟨hw, hg⟩
   have HS : Hid (∀ Y, Below g wr Y → Calls Tryz.prog 145 #[.slice A1 L1 C1] Y fun e w' => e = .returned (.int .u32 (crI 0 p.d)) ∧ w' = Y) := fun Y hY => dCrcSum_of A1 L1 C1 p.d Y (hbin.below (by rw [← hg]; exact hY))
   have HE : Hid (∀ Y, Below g wr Y → Calls Tryz.prog 146 #[.slice A1 L1 C1] Y fun e w' => e = .returned (.int .i64 (endsN p.d : Nat)) ∧ w' = Y) := fun Y hY => dEnds_of A1 L1 C1 p.d Y (hbin.below (by rw [← hg]; exact hY))
   have hwE : IntKind.u16.wrap ((endsN p.d : Nat) : Int) = ((endsN p.d : Nat) : Int) := by have := (ends_at p.d).1; have := hbin.1; rw [IntKind.wrap_u16]; omega
   have HC : Hid (∀ Y, Below g wr Y → Y.cell? ⟨b, off + j * 4 + 2, none⟩ = some (.bool p.x) ∧ Y.cell? ⟨b, off + j * 4 + 3, none⟩ = some (.slice A1 L1 C1)) := fun Y hY => ⟨((by rw [hg] at hY; exact hY : Below wr.heap.size wr Y).cell (old_block x2)).trans x2, ((by rw [hg] at hY; exact hY : Below wr.heap.size wr Y).cell (old_block x3)).trans x3⟩
   have HV : Hid (Below g wr (wr.alloc (.cells #[.int .u32 p.t, .int .u64 p.b, .int .u8 2, .int .u32 0, .int .u16 0] 183)).drew ∧ Blk (wr.alloc (.cells #[.int .u32 p.t, .int .u64 p.b, .int .u8 2, .int .u32 0, .int .u16 0] 183)).drew g [.int .u32 p.t, .int .u64 p.b, .int .u8 2, .int .u32 0, .int .u16 0] 183) := ⟨below_drew ((Below.refl _ _).alloc (by omega) _), (Blk.new' hg.symm rfl).drew⟩
   generalize (l.take j).map itP = xs at HN HW
   clear hcl hbin hL1 hfit hw hb x2 x3
   go_wp2_with fail
   go_region
   rw [← hg]
   clear x0 x1 xa xb hg
   generalize World.drew (World.alloc wr _) = V at HV ⊢
   obtain ⟨x2, x3⟩ := HC.out V HV.out.1
   cases hx : p.x with
   | true =>
    rw [hx] at x2
    have hsz : g = wr.heap.size := HW.out.2
    have st4 : WI q W V (incU st.q) A j C xs := HW.out.1.below (by rw [← hsz]; exact HV.out.1)
    have m1 : V.cell? ⟨q, 1, none⟩ = some (.slice A j C) := st4.rc.cell 1
    have y0 : V.cell? ⟨g, 0, none⟩ = some (.int .u32 p.t) := HV.out.2.cell 0
    have y1 : V.cell? ⟨g, 1, none⟩ = some (.int .u64 p.b) := HV.out.2.cell 1
    have y2 : V.cell? ⟨g, 2, none⟩ = some (.int .u8 2) := HV.out.2.cell 2
    have y3 : V.cell? ⟨g, 3, none⟩ = some (.int .u32 0) := HV.out.2.cell 3
    have y4 : V.cell? ⟨g, 4, none⟩ = some (.int .u16 0) := HV.out.2.cell 4
    obtain ⟨a9, c9, w9, e9, o9, b9⟩ := app_item st4.ow ⟨p.t, p.b, 2, 0, 0⟩ (by omega) (by have := st4.rc.lt; omega)
    have rc9 := st4.rc.below b9 (by omega)
    have m5 := rc9.frozen 1
    have m4 : w9.cell? ⟨q, 1, none⟩ = some (.slice A j C) := rc9.cell 1
    have H9 : Hid (WI q W (w9.setCell ⟨q, 1, none⟩ (.slice a9 (j + 1) c9)) (incU st.q) a9 (j + 1) c9 ((l.take (j + 1)).map itP)) := by
     rw [HN.out, show itP p = ⟨p.t, p.b, 2, 0, 0⟩ by unfold itP; rw [if_pos hx]]
     exact st4.more o9 b9
    clear st4 o9 b9 rc9 hx hsz
    go_wp2_with (at_builtin; refine cwpList_append_run rfl _ _ 179 179 rfl _ _ rfl rfl _ _ e9 ?_; clear e9)
    exact ⟨⟨j + 1, a9, c9, by simp, by omega, H9.out⟩, by simp [intOf]; omega⟩
   | false =>
    rw [hx] at x2
    obtain ⟨E, hE⟩ : ∃ E : Nat, E = endsN p.d := ⟨_, rfl⟩
    obtain ⟨Z, hZ⟩ : ∃ Z, Z = crI 0 p.d := ⟨_, rfl⟩
    rw [← hE] at hwE HE
    rw [← hZ] at HS
    have HI : Hid (itP p = ⟨p.t, p.b, 1, Z, (E : Nat)⟩) := by rw [hE, hZ]; show _ = _; unfold itP; rw [if_neg (by rw [hx]; decide)]
    have f2 := HV.out.2.frozen 2
    have f3 := HV.out.2.frozen 3
    have f4 := HV.out.2.frozen 4
    have y2 : V.cell? ⟨g, 2, none⟩ = some (.int .u8 2) := HV.out.2.cell 2
    have y3 : V.cell? ⟨g, 3, none⟩ = some (.int .u32 0) := HV.out.2.cell 3
    have y4 : V.cell? ⟨g, 4, none⟩ = some (.int .u16 0) := HV.out.2.cell 4
    have hgb : g ≠ b := fun e => hbg e.symm
    have HB3 : Hid (Below g wr (((V.setCell ⟨g, 2, none⟩ (.int .u8 1)).setCell ⟨g, 3, none⟩ (.int .u32 Z)).setCell ⟨g, 4, none⟩ (.int .u16 (E : Nat))) ∧ Blk (((V.setCell ⟨g, 2, none⟩ (.int .u8 1)).setCell ⟨g, 3, none⟩ (.int .u32 Z)).setCell ⟨g, 4, none⟩ (.int .u16 (E : Nat))) g [.int .u32 p.t, .int .u64 p.b, .int .u8 1, .int .u32 Z, .int .u16 (E : Nat)] 183) := ⟨((HV.out.1.setCell (Nat.le_refl g) _).setCell (Nat.le_refl g) _).setCell (Nat.le_refl g) _, ((HV.out.2.set 2 _).set 3 _).set 4 _⟩
    clear hx hE hZ
    go_upto_region 9 with (first
     | (go_at_call 145; refine (HS.out _ (HV.out.1.setCell (Nat.le_refl g) _)).mono ?_; rintro e w5 ⟨rfl, rfl⟩)
     | (go_at_call 146; refine (HE.out _ ((HV.out.1.setCell (Nat.le_refl g) _).setCell (Nat.le_refl g) _)).mono ?_; rintro e w5 ⟨rfl, rfl⟩))
    clear f2 f3 f4 y2 y3 y4 x2 x3
    generalize World.setCell (World.setCell (World.setCell V _ _) _ _) _ _ = V3 at HB3 ⊢
    have hsz : g = wr.heap.size := HW.out.2
    have st4 : WI q W V3 (incU st.q) A j C xs := HW.out.1.below (by rw [← hsz]; exact HB3.out.1)
    have m1 : V3.cell? ⟨q, 1, none⟩ = some (.slice A j C) := st4.rc.cell 1
    have y0 : V3.cell? ⟨g, 0, none⟩ = some (.int .u32 p.t) := HB3.out.2.cell 0
    have y1 : V3.cell? ⟨g, 1, none⟩ = some (.int .u64 p.b) := HB3.out.2.cell 1
    have y2 : V3.cell? ⟨g, 2, none⟩ = some (.int .u8 1) := HB3.out.2.cell 2
    have y3 : V3.cell? ⟨g, 3, none⟩ = some (.int .u32 Z) := HB3.out.2.cell 3
    have y4 : V3.cell? ⟨g, 4, none⟩ = some (.int .u16 (E : Nat)) := HB3.out.2.cell 4
    obtain ⟨a9, c9, w9, e9, o9, b9⟩ := app_item st4.ow ⟨p.t, p.b, 1, Z, (E : Nat)⟩ (by omega) (by have := st4.rc.lt; omega)
    have rc9 := st4.rc.below b9 (by omega)
    have m5 := rc9.frozen 1
    have m4 : w9.cell? ⟨q, 1, none⟩ = some (.slice A j C) := rc9.cell 1
    have H9 : Hid (WI q W (w9.setCell ⟨q, 1, none⟩ (.slice a9 (j + 1) c9)) (incU st.q) a9 (j + 1) c9 ((l.take (j + 1)).map itP)) := by
     rw [HN.out, HI.out]
     exact st4.more o9 b9
    clear st4 o9 b9 rc9 hsz
    go_wp2_with (at_builtin; refine cwpList_append_run rfl _ _ 179 179 rfl _ _ rfl rfl _ _ e9 ?_; clear e9)
    exact ⟨⟨j + 1, a9, c9, by simp, by omega, H9.out⟩, by simp [intOf]; omega⟩
  ·obtain rfl : j = n := by omega
   have HT : Hid (WI q W wr (incU st.q) A j C (l.map itP)) := by
    rw [List.take_of_length_le (by rw [H.out.2.1.1]; exact Nat.le_refl _)] at hw
    exact hw
   clear hw HP
   have hbw : Below W.heap.size W wr := by rw [← HR.out.2]; exact HT.out.bel
   have hv := H.out.1.under hbw
   have hits : ItsIn wr A j (l.map itP) := own_its HT.out.ow (by unfold maxLen; omega) (fun x hx => by
    obtain ⟨p, hp, rfl⟩ := List.mem_map.1 hx
    exact itP_fits (H.out.2.1.fits p hp) (PtsIn.len H.out.2.1 p hp))
   have r0 : wr.cell? ⟨q, 0, none⟩ = some (.int .u64 (incU st.q)) := HT.out.rc.cell 0
   have r1 : wr.cell? ⟨q, 1, none⟩ = some (.slice A j C) := HT.out.rc.cell 1
   obtain ⟨s0, _⟩ := hv.cells
   obtain ⟨_, _, d2, _⟩ := hv.dcells
   have HSv : Hid (SdV D M wr k st ∧ Out (SdO D M k) W wr) := ⟨hv, (Out.refl _ _).under hbw⟩
   have kc : ∀ Y, Below wr.heap.size wr Y → Y.cell? ⟨q, 0, none⟩ = some (.int .u64 (incU st.q)) ∧ Y.cell? ⟨q, 1, none⟩ = some (.slice A j C) ∧ Y.cell? ⟨k.ps, 0, none⟩ = some (.pointer (some ⟨k.pd, 0, none⟩)) ∧ Y.cell? ⟨k.pd, 2, none⟩ = some (.int .i64 st.s.b) := fun Y hY => ⟨(HT.out.below hY).rc.cell 0, (HT.out.below hY).rc.cell 1, (hv.under hY).cells.1, (hv.under hY).dcells.2.2.1⟩
   have HEn : Hid (∀ Y, Below wr.heap.size wr Y → Calls Tryz.prog 147 #[.agg #[.int .u64 (incU st.q), .slice A j C], .int .i64 st.s.b] Y fun e Z => ∃ av nv cv ev, e = .returned (.tuple #[.slice av nv cv, .int .i64 ev]) ∧ (BIn Z av nv (encB (incU st.q) (l.map itP) st.s.b) ∧ (av = none → nv = 0 ∧ cv = 0) ∧ Below wr.heap.size wr Z) ∧ Z.cell? ⟨q, 0, none⟩ = some (.int .u64 (incU st.q)) ∧ Z.cell? ⟨q, 1, none⟩ = some (.slice A j C) ∧ Z.cell? ⟨k.ps, 0, none⟩ = some (.pointer (some ⟨k.pd, 0, none⟩)) ∧ Z.cell? ⟨k.pd, 2, none⟩ = some (.int .i64 st.s.b)) := fun Y hY => by
    refine (dEncode_of (incU st.q) A j C (l.map itP) st.s.b Y (incU_fits _) (hits.below hY)).mono ?_
    rintro e Z ⟨av, nv, cv, rfl, ow, hZ⟩
    have hb := hY.trans (hZ.mono hY.size)
    have hnv : nv ≤ maxLen := by
     have h1 := ow.1
     have h2 := encB_len (incU st.q) (l.map itP) st.s.b
     simp [u8s] at h1
     unfold maxLen
     omega
    exact ⟨av, nv, cv, _, rfl, ⟨own_bin ow hnv (encB_fits _ _ _), own_nil ow, hb⟩, kc Z hb⟩
   clear hv hbw hits kc
   go_wp2_with fail
   go_region_held3 (fun Y => Y.cell? ⟨q, 0, none⟩ = some (.int .u64 (incU st.q)) ∧ Y.cell? ⟨q, 1, none⟩ = some (.slice A j C) ∧ Y.cell? ⟨k.ps, 0, none⟩ = some (.pointer (some ⟨k.pd, 0, none⟩)) ∧ Y.cell? ⟨k.pd, 2, none⟩ = some (.int .i64 st.s.b)) (first | exact ⟨r0, r1, s0, d2⟩ | exact ⟨e0, e1, e2, e3⟩)
    (first | (go_simp; go_at_call 147; refine (HEn.out _ (by exact (Below.refl _ _).drew)).mono ?_; rintro e Z ⟨av, nv, cv, ev, rfl, hZ, e0, e1, e2, e3⟩))
   have HZ : Hid (BIn Z av nv (encB (incU st.q) (l.map itP) st.s.b) ∧ (av = none → nv = 0 ∧ cv = 0) ∧ Below wr.heap.size wr Z) := hZ
   clear hZ e0 e1 e3 HEn r0 r1 s0 d2
   have HA : Hid (Calls Tryz.prog 130 #[.pointer (some ⟨k.pd, 0, none⟩), .int .i64 (z : Nat), .slice av nv cv] Z fun e w' => (∃ v, e = .returned v) ∧ Sd (SdO D M k) W k { st with zs := recZ st z l } w') := by
    have hvZ := HSv.out.1.under HZ.out.2.2
    refine (rAppend_of (z : Nat) av nv cv _ hvZ.dv hvZ.wf HZ.out.1 HZ.out.2.1 (by have h1 := HZ.out.1.1; have h2 := encB_len (incU st.q) (l.map itP) st.s.b; omega)).mono ?_
    rintro e w' ⟨rfl, hs⟩
    exact ⟨⟨_, rfl⟩, Sd.next (fun x hx => .inl hx) (HSv.out.2.under HZ.out.2.2) (hvZ.dvstep hs (hvZ.wf.app _ _))⟩
   go_upto_region 12 with (go_at_call 130; refine HA.out.mono ?_; rintro e W5 ⟨⟨v5, rfl⟩, sv5⟩)
   have H5 : Hid (Sd (SdO D M k) W k { st with zs := recZ st z l } W5) := sv5
   clear sv5 HA HZ HT HSv e2
   obtain ⟨D5, M5, hv5, hR5, ho5⟩ := H5.out
   obtain ⟨t0, t1, t2, t3, t4, t5⟩ := hv5.cells
   have f3 := hv5.hp.frozen 3
   have hwq := wrap_inc st.q
   have HV1 : Hid (Sd (SdO D M k) W k { st with zs := recZ st z l, q := incU st.q } (W5.setCell ⟨k.ps, 3, none⟩ (.int .u64 (incU st.q)))) := Sd.next hR5 ho5 (hv5.setP (q := incU st.q) (o := st.o) rfl (incU_fits _))
   clear hv5 hR5 ho5 H5
   simp only at t3 t4
   go_upto_region 13 with fail
   clear t0 t1 t2 t3 t4 t5 f3 hwq
   generalize World.setCell W5 _ _ = W6 at HV1 ⊢
   obtain ⟨D6, M6, hv6, hR6, ho6⟩ := HV1.out
   have hlaz : z < st.la.length := by have h1 := H.out.1.len.2; have h2 := H.out.2.2.2.2; omega
   obtain ⟨t0, t1, t2, t3, t4, t5⟩ := hv6.cells
   obtain ⟨old, y0⟩ : ∃ old, W6.cell? ⟨k.lb, z, none⟩ = some (.int .u64 old) := ⟨st.la[z], by rw [hv6.hl.cell]; simp [kInts, hlaz]⟩
   have yf := hv6.hl.frozen z
   have n1 : k.ps ≠ k.lb := (nodup5 hv6.ap).1.2.2.2
   have n2 : k.lb ≠ k.ps := fun e => n1 e.symm
   have HV2 : Hid (Sd (SdO D M k) W k { st with zs := recZ st z l, q := incU st.q, la := st.la.set z (incU st.q) } (W6.setCell ⟨k.lb, z, none⟩ (.int .u64 (incU st.q)))) := Sd.next hR6 ho6 (hv6.setLa z (incU st.q))
   clear hv6 hR6 ho6 HV1 t0 t1 t2 t5
   simp only at t3 t4
   go_region
   clear t3 t4 y0 yf n1 n2 hlaz
   have HV3 : Hid (Sd (SdO D M k) W k { st with q := incU st.q, la := st.la.set z (incU st.q), zs := (wrY st z l 0).1, S := (wrY st z l 0).2 } (W6.setCell ⟨k.lb, z, none⟩ (.int .u64 (incU st.q))).drew) := by rw [wrY_zero]; exact HV2.out.under (Below.refl _ _).drew
   clear HV2
   generalize World.drew (World.setCell W6 _ _) = W7 at HV3 ⊢
   clear W6 W5 hj
   go_wp2_with fail
   go_loopw [11] (fun x wr => ∃ i : Nat, x = .int .i64 i ∧ i ≤ j ∧ Sd (SdO D M k) W k { st with q := incU st.q, la := st.la.set z (incU st.q), zs := (wrY st z l i).1, S := (wrY st z l i).2 } wr ∧ (wrY st z l i).2.length ≤ st.S.length + i) (fun x _ => j - (intOf x).toNat)
   case atStart => exact ⟨0, rfl, Nat.zero_le _, HV3.out, by rw [wrY_zero]; exact Nat.le_refl _⟩
   case round =>
    obtain ⟨i, rfl, hi, ⟨Di, Mi, hvi, hRi, hoi⟩, hSl⟩ := hrel
    rcases Nat.lt_or_ge i j with hlt2 | hge2
    ·have hi' : (i : Int) < j := by omega
     have hwi : IntKind.i64.wrap ((i : Int) + 1) = (i : Int) + 1 := by rw [IntKind.wrap_i64]; omega
     obtain ⟨p, b, off, hp, rfl, hb, A1, L1, C1, hcl, hbin, hnil1, hL1, hX1, hfit⟩ := (H.out.2.1.out hoi (fun x hx => (H.out.2.2.1 x hx).1)).at X hlt2
     have x0 : wr.cell? ⟨b, off + i * 4, none⟩ = some (.int .u32 p.t) := hcl 0 _ rfl
     have x1 : wr.cell? ⟨b, off + i * 4 + 1, none⟩ = some (.int .u64 p.b) := hcl 1 _ rfl
     have x2 : wr.cell? ⟨b, off + i * 4 + 2, none⟩ = some (.bool p.x) := hcl 2 _ rfl
     have x3 : wr.cell? ⟨b, off + i * 4 + 3, none⟩ = some (.slice A1 L1 C1) := hcl 3 _ rfl
     have hnb : ∀ x, X x → ¬ SdO Di Mi k x := fun x hx h => by
      rcases hRi x h with h | h
      ·exact (H.out.2.2.1 x hx).1 h
      ·have := (H.out.2.2.1 x hx).2; omega
     have HSl : Hid ((wrY st z l (i + 1)).2.length ≤ st.S.length + (i + 1)) := by
      show _ ≤ _
      rw [wrY_next hp]
      unfold oneP
      split
      ·have := dropS_len (wrY st z l i).2 p.n; simp only; omega
      ·have := putS_len hvi.mp.2 (p.n, appA st.s (wrY st z l i).1 z p.d); simp only at this ⊢; omega
     have HV : Hid (SdV Di Mi wr k { st with q := incU st.q, la := st.la.set z (incU st.q), zs := (wrY st z l i).1, S := (wrY st z l i).2 } ∧ (∀ x, SdO Di Mi k x → SdO D M k x ∨ W.heap.size ≤ x) ∧ Out (SdO D M k) W wr ∧ (wrY st z l i).2.length ≤ 10000 ∧ BIn wr A1 L1 p.d ∧ (A1 = none → L1 = 0 ∧ C1 = 0) ∧ L1 ≤ 10000 ∧ p.Fits ∧ l[i]? = some p ∧ (¬ SdO Di Mi k b) ∧ b < W.heap.size) := ⟨hvi, hRi, hoi, by have := H.out.2.2.2.1; omega, hbin, hnil1, hL1, hfit, hp, hnb b hb, (H.out.2.2.1 b hb).2⟩
     obtain ⟨s0, _, s2, _⟩ := hvi.cells
     clear hcl hbin hnil1 hL1 hX1 hfit hp hb hvi hRi hoi hnb hSl
     cases hx : p.x with
     | true =>
      rw [hx] at x2
      have HD : Hid (Calls Tryz.prog 148 #[.pointer (some ⟨k.pm, 0, none⟩), .int .u32 p.t, .int .u64 p.b] wr.drew fun e w' => (∃ v, e = .returned v) ∧ Sd (SdO D M k) W k { st with q := incU st.q, la := st.la.set z (incU st.q), zs := (wrY st z l (i + 1)).1, S := (wrY st z l (i + 1)).2 } w' ∧ w'.cell? ⟨k.ps, 2, none⟩ = some (.pointer (some ⟨k.pm, 0, none⟩)) ∧ w'.cell? ⟨b, off + i * 4, none⟩ = some (.int .u32 p.t) ∧ w'.cell? ⟨b, off + i * 4 + 1, none⟩ = some (.int .u64 p.b)) := by
       have hvd := HV.out.1.under (Below.refl _ _).drew
       refine (dmDrop_of k.pm _ p.n wr.drew hvd.mp.d HV.out.2.2.2.1).mono ?_
       rintro e w' ⟨rfl, h1, h2⟩
       have sv := hvd.mpstep h1 h2
       have hbm : ¬ b = k.pm := fun e => HV.out.2.2.2.2.2.2.2.2.2.1 (.inr (.inr (by rw [e]; exact .inr (.inr (.inr (.inl rfl))))))
       obtain ⟨D9, M9, hv9, hR9, ho9⟩ := sv
       refine ⟨⟨_, rfl⟩, ?_, hv9.cells.2.2.1, h2.cell x0 hbm, h2.cell x1 hbm⟩
       rw [wrY_next HV.out.2.2.2.2.2.2.2.2.1]
       unfold oneP
       rw [if_pos hx]
       exact Sd.next HV.out.2.1 (HV.out.2.2.1.under (Below.refl _ _).drew) ⟨D9, M9, hv9, hR9, ho9⟩
      clear hx
      go_wp2_with fail
      go_region_held3 (fun Y => Y.cell? ⟨k.ps, 2, none⟩ = some (.pointer (some ⟨k.pm, 0, none⟩)) ∧ Y.cell? ⟨b, off + i * 4, none⟩ = some (.int .u32 p.t) ∧ Y.cell? ⟨b, off + i * 4 + 1, none⟩ = some (.int .u64 p.b)) (first | exact ⟨s2, x0, x1⟩ | exact ⟨t2, z0, z1⟩)
       (first | (go_simp; go_at_call 148; refine HD.out.mono ?_; rintro e V9 ⟨⟨v9, rfl⟩, sv9, t2, z0, z1⟩))
      all_goals (
       have H9 : Hid (Sd (SdO D M k) W k { st with q := incU st.q, la := st.la.set z (incU st.q), zs := (wrY st z l (i + 1)).1, S := (wrY st z l (i + 1)).2 } V9) := sv9
       clear sv9 s2 s0 t2 z0 z1 x0 x1 x2 x3
       go_wp2
       go_roundw
       case rel => exact ⟨i + 1, by simp, by omega, H9.out, HSl.out⟩
       case measure => simp [intOf]; omega)
     | false =>
      rw [hx] at x2
      obtain ⟨aa, haa⟩ : ∃ aa, aa = appA st.s (wrY st z l i).1 z p.d := ⟨_, rfl⟩
      have HAA : Hid (aa = appA st.s (wrY st z l i).1 z p.d) := haa
      clear haa
      obtain ⟨g, hg⟩ : ∃ g, g = wr.heap.size := ⟨_, rfl⟩
      have HG : Hid (g = wr.heap.size ∧ b < g) := ⟨hg, by have := old_block x0; simp at this; rw [hg]; exact this⟩
      have HAp : Hid (∀ Y, Below wr.heap.size wr Y → Calls Tryz.prog 130 #[.pointer (some ⟨k.pd, 0, none⟩), .int .i64 (z : Nat), .slice A1 L1 C1] Y fun e Z => ∃ ev, e = .returned (.tuple #[.agg #[.int .i64 aa.1, .int .i64 aa.2], .int .i64 ev]) ∧ (Sd (SdO D M k) W k { st with q := incU st.q, la := st.la.set z (incU st.q), zs := appZ st.s (wrY st z l i).1 z p.d, S := (wrY st z l i).2 } Z ∧ g ≤ Z.heap.size ∧ Z.cell? ⟨b, off + i * 4, none⟩ = some (.int .u32 p.t) ∧ Z.cell? ⟨b, off + i * 4 + 1, none⟩ = some (.int .u64 p.b)) ∧ (∀ g' L t, g ≤ g' → Blk Y g' L t → Blk Z g' L t) ∧ Z.cell? ⟨k.ps, 0, none⟩ = some (.pointer (some ⟨k.pd, 0, none⟩)) ∧ Z.cell? ⟨b, off + i * 4 + 3, none⟩ = some (.slice A1 L1 C1) ∧ (∀ o, (Z.alloc o).cell? ⟨k.ps, 0, none⟩ = some (.pointer (some ⟨k.pd, 0, none⟩))) ∧ (∀ o, (Z.alloc o).cell? ⟨b, off + i * 4 + 3, none⟩ = some (.slice A1 L1 C1)) ∧ (∀ g', g ≤ g' → g' < Y.heap.size → ∀ u1 u2, Sd (SdO D M k) W k { st with q := incU st.q, la := st.la.set z (incU st.q), zs := appZ st.s (wrY st z l i).1 z p.d, S := (wrY st z l i).2 } ((Z.setCell ⟨g', 0, none⟩ u1).setCell ⟨g', 1, none⟩ u2))) := fun Y hY => by
       have hvd := HV.out.1.under hY
       refine (rAppend_of (z : Nat) A1 L1 C1 p.d hvd.dv hvd.wf (HV.out.2.2.2.2.1.below hY) HV.out.2.2.2.2.2.1 (by have := HV.out.2.2.2.2.2.2.1; omega)).mono ?_
       rintro e w' ⟨rfl, hs⟩
       have sv := hvd.dvstep hs (hvd.wf.app _ _)
       obtain ⟨D9, M9, hv9, hR9, ho9⟩ := sv
       have hnb := HV.out.2.2.2.2.2.2.2.2.2.1
       have hno : ∀ x, g ≤ x → ¬ SdO Di Mi k x := fun x hx h => by have := HV.out.1.all x h; omega
       have z0 := ho9.cell ((hY.cell (old_block x0)).trans x0) hnb
       have z1 := ho9.cell ((hY.cell (old_block x1)).trans x1) hnb
       have z3 := ho9.cell ((hY.cell (old_block x3)).trans x3) hnb
       have hs9 := ho9.size
       have hsY := hY.size
       refine ⟨_, by rw [HAA.out], ⟨Sd.next HV.out.2.1 (HV.out.2.2.1.under hY) ⟨D9, M9, hv9, hR9, ho9⟩, by omega, z0, z1⟩, fun g' L t hg' hb => ho9.blk hb (hno g' hg'), hv9.cells.1, z3, fun o => (hv9.hp.alloc o).cell 0, fun o => (((Below.refl _ _).alloc (Nat.le_refl _) o).cell (old_block z3)).trans z3, fun g' h1 h2 u1 u2 => ?_⟩
       have hn9 : ¬ SdO D9 M9 k g' := fun h => by
        rcases hR9 g' h with h | h
        ·exact hno g' h1 h
        ·omega
       have hWg : W.heap.size ≤ g' := by have e1 := HV.out.2.2.1.size; omega
       exact ⟨D9, M9, (hv9.poke hn9 0 u1).poke hn9 1 u2, fun x hx => by
        rcases hR9 x hx with h | h
        ·exact HV.out.2.1 x h
        ·have e1 := HV.out.2.2.1.size; exact .inr (by omega), (((HV.out.2.2.1.under hY).trans ho9 (fun j hj => HV.out.2.1 j hj)).setCell (p := ⟨g', 0, none⟩) (.inr hWg) u1).setCell (p := ⟨g', 1, none⟩) (.inr hWg) u2⟩
      have HPut : Hid (∀ (V7 : World) (ga : Nat), b < ga → g ≤ ga → Sd (SdO D M k) W k { st with q := incU st.q, la := st.la.set z (incU st.q), zs := appZ st.s (wrY st z l i).1 z p.d, S := (wrY st z l i).2 } V7 → V7.cell? ⟨b, off + i * 4, none⟩ = some (.int .u32 p.t) → V7.cell? ⟨b, off + i * 4 + 1, none⟩ = some (.int .u64 p.b) → Blk V7 ga [.int .i64 aa.1, .int .i64 aa.2] 49 → Calls Tryz.prog 133 #[.pointer (some ⟨k.pm, 0, none⟩), .agg #[.int .u32 p.t, .int .u64 p.b, .int .i64 aa.1, .int .i64 aa.2]] V7.drew fun e w' => (∃ v, e = .returned v) ∧ Sd (SdO D M k) W k { st with q := incU st.q, la := st.la.set z (incU st.q), zs := (wrY st z l (i + 1)).1, S := (wrY st z l (i + 1)).2 } w' ∧ w'.cell? ⟨k.ps, 2, none⟩ = some (.pointer (some ⟨k.pm, 0, none⟩)) ∧ w'.cell? ⟨b, off + i * 4, none⟩ = some (.int .u32 p.t) ∧ w'.cell? ⟨b, off + i * 4 + 1, none⟩ = some (.int .u64 p.b) ∧ w'.cell? ⟨ga, 0, none⟩ = some (.int .i64 aa.1) ∧ w'.cell? ⟨ga, 1, none⟩ = some (.int .i64 aa.2)) := by
       intro V7 ga hga hga2 sv q0 q1 ba
       obtain ⟨D7, M7, hv7, hR7, ho7⟩ := sv
       have hvd := hv7.under (Below.refl _ _).drew
       have hwi : z < (wrY st z l i).1.length := by have e1 := HV.out.1.wf.len; have e2 := H.out.1.wf.len; have := H.out.2.2.2.2; simp only at e1; omega
       refine (dmPut_of k.pm _ (p.n, aa) V7.drew hvd.mp.d ⟨⟨HV.out.2.2.2.2.2.2.2.1.1, HV.out.2.2.2.2.2.2.2.1.2.1⟩, by rw [HAA.out]; exact appA_fits HV.out.1.wf hwi _⟩ HV.out.2.2.2.1).mono ?_
       rintro e w' ⟨rfl, h1, h2⟩
       have sv := hvd.mpstep h1 h2
       have hpm : k.pm < g := by have := HV.out.1.mp.lt; have := HG.out.1; omega
       have hbm : ¬ b = k.pm := fun e => HV.out.2.2.2.2.2.2.2.2.2.1 (.inr (.inr (by rw [e]; exact .inr (.inr (.inr (.inl rfl))))))
       have bga := h2.blk ba.drew (show ¬ ga = k.pm by omega)
       obtain ⟨D9, M9, hv9, hR9, ho9⟩ := sv
       refine ⟨⟨_, rfl⟩, ?_, hv9.cells.2.2.1, h2.cell q0 hbm, h2.cell q1 hbm, bga.cell 0, bga.cell 1⟩
       rw [wrY_next HV.out.2.2.2.2.2.2.2.2.1]
       unfold oneP
       rw [if_neg (by rw [hx]; decide), ← HAA.out]
       exact Sd.next hR7 (ho7.under (Below.refl _ _).drew) ⟨D9, M9, hv9, hR9, ho9⟩
      have s0a : ∀ o, (wr.alloc o).cell? ⟨k.ps, 0, none⟩ = some (.pointer (some ⟨k.pd, 0, none⟩)) := fun o => (HV.out.1.hp.alloc o).cell 0
      have x3a : ∀ o, (wr.alloc o).cell? ⟨b, off + i * 4 + 3, none⟩ = some (.slice A1 L1 C1) := fun o => (((Below.refl _ _).alloc (Nat.le_refl _) o).cell (old_block x3)).trans x3
      clear hx
      have hsz : wr.heap.size = g := hg.symm
      clear hg
      go_wp2_with fail
      go_cut [12] (fun v X => ∃ ga, v = .pointer (some ⟨ga, 0, none⟩) ∧ b < ga ∧ g ≤ ga ∧ Sd (SdO D M k) W k { st with q := incU st.q, la := st.la.set z (incU st.q), zs := appZ st.s (wrY st z l i).1 z p.d, S := (wrY st z l i).2 } X ∧ X.cell? ⟨b, off + i * 4, none⟩ = some (.int .u32 p.t) ∧ X.cell? ⟨b, off + i * 4 + 1, none⟩ = some (.int .u64 p.b) ∧ Blk X ga [.int .i64 aa.1, .int .i64 aa.2] 49)
      case first =>
       go_region_law (first
        | (go_simp; go_at_call 130; refine (HAp.out _ (by first | exact (Below.refl _ _).drew | exact ((Below.refl _ _).alloc (Nat.le_refl _) _).drew | exact ((Below.refl _ _).alloc (Nat.le_refl _) _))).mono ?_; rintro e V6 ⟨ev, rfl, sv6, kp6, t0, z3, t0a, z3a, pk6⟩; try (have pA := pk6 g (Nat.le_refl _) (by simp [hsz]); have bA := kp6 g [.int .i64 0, .int .i64 0] 49 (Nat.le_refl _) (Blk.new' hsz rfl).drew; have m0 := bA.cell 0; have m1 := bA.cell 1; have m2 := bA.frozen 0; have m3 := bA.frozen 1; simp only [List.getElem?_cons_zero, List.getElem?_cons_succ] at m0 m1)))
       all_goals (
        have hbg := HG.out.2
        first
        | (
         have P7 : Hid (Sd (SdO D M k) W k { st with q := incU st.q, la := st.la.set z (incU st.q), zs := appZ st.s (wrY st z l i).1 z p.d, S := (wrY st z l i).2 } ((V6.setCell ⟨g, 0, none⟩ (.int .i64 aa.1)).setCell ⟨g, 1, none⟩ (.int .i64 aa.2)) ∧ ((V6.setCell ⟨g, 0, none⟩ (.int .i64 aa.1)).setCell ⟨g, 1, none⟩ (.int .i64 aa.2)).cell? ⟨b, off + i * 4, none⟩ = some (.int .u32 p.t) ∧ ((V6.setCell ⟨g, 0, none⟩ (.int .i64 aa.1)).setCell ⟨g, 1, none⟩ (.int .i64 aa.2)).cell? ⟨b, off + i * 4 + 1, none⟩ = some (.int .u64 p.b) ∧ Blk ((V6.setCell ⟨g, 0, none⟩ (.int .i64 aa.1)).setCell ⟨g, 1, none⟩ (.int .i64 aa.2)) g [.int .i64 aa.1, .int .i64 aa.2] 49) := ⟨pA _ _, (out_one _ g 1 _).cell ((out_one V6 g 0 _).cell sv6.2.2.1 (by show ¬ b = g; omega)) (by show ¬ b = g; omega), (out_one _ g 1 _).cell ((out_one V6 g 0 _).cell sv6.2.2.2 (by show ¬ b = g; omega)) (by show ¬ b = g; omega), (bA.set 0 _).set 1 _⟩
         generalize World.setCell (World.setCell V6 _ _) _ _ = V7 at P7 ⊢
         clear pA bA m0 m1 m2 m3
         go_wp2_with fail
         go_meet
         case rel => exact ⟨g, rfl, hbg, Nat.le_refl _, P7.out⟩)
        | (
         have P7 : Hid (Sd (SdO D M k) W k { st with q := incU st.q, la := st.la.set z (incU st.q), zs := appZ st.s (wrY st z l i).1 z p.d, S := (wrY st z l i).2 } (V6.alloc (.cells #[.int .i64 aa.1, .int .i64 aa.2] 49)) ∧ (V6.alloc (.cells #[.int .i64 aa.1, .int .i64 aa.2] 49)).cell? ⟨b, off + i * 4, none⟩ = some (.int .u32 p.t) ∧ (V6.alloc (.cells #[.int .i64 aa.1, .int .i64 aa.2] 49)).cell? ⟨b, off + i * 4 + 1, none⟩ = some (.int .u64 p.b) ∧ Blk (V6.alloc (.cells #[.int .i64 aa.1, .int .i64 aa.2] 49)) V6.heap.size [.int .i64 aa.1, .int .i64 aa.2] 49) := ⟨sv6.1.under ((Below.refl _ _).alloc (Nat.le_refl _) _), (((Below.refl _ _).alloc (Nat.le_refl _) _).cell (old_block sv6.2.2.1)).trans sv6.2.2.1, (((Below.refl _ _).alloc (Nat.le_refl _) _).cell (old_block sv6.2.2.2)).trans sv6.2.2.2, Blk.new' rfl rfl⟩
         have hg6 := sv6.2.1
         generalize World.alloc V6 _ = V7 at P7 ⊢
         generalize V6.heap.size = ga at P7 hg6 ⊢
         go_wp2_with fail
         go_meet
         case rel => exact ⟨ga, rfl, by omega, hg6, P7.out⟩))
      case rest =>
      obtain ⟨ga, rfl, hga1, hga2, sv7, q0, q1, ba⟩ := hcut
      have HC := HPut.out wc ga hga1 hga2 sv7 q0 q1 ba
      have a0 : wc.cell? ⟨ga, 0, none⟩ = some (.int .i64 aa.1) := ba.cell 0
      have a1 : wc.cell? ⟨ga, 1, none⟩ = some (.int .i64 aa.2) := ba.cell 1
      obtain ⟨D7, M7, hv7, _, _⟩ := sv7
      obtain ⟨_, _, u2, _⟩ := hv7.cells
      clear hv7 s0 s2 s0a x3a hsz HAp HPut x0 x1 x2 x3 ba
      go_wp2_with fail
      go_region_held3 (fun Y => Y.cell? ⟨k.ps, 2, none⟩ = some (.pointer (some ⟨k.pm, 0, none⟩)) ∧ Y.cell? ⟨b, off + i * 4, none⟩ = some (.int .u32 p.t) ∧ Y.cell? ⟨b, off + i * 4 + 1, none⟩ = some (.int .u64 p.b) ∧ Y.cell? ⟨ga, 0, none⟩ = some (.int .i64 aa.1) ∧ Y.cell? ⟨ga, 1, none⟩ = some (.int .i64 aa.2)) (first | exact ⟨u2, q0, q1, a0, a1⟩ | exact ⟨t2, z0, z1, b0, b1⟩)
       (first | (go_simp; go_at_call 133; refine HC.mono ?_; rintro e V9 ⟨⟨v9, rfl⟩, sv9, t2, z0, z1, b0, b1⟩))
      have H9 : Hid (Sd (SdO D M k) W k { st with q := incU st.q, la := st.la.set z (incU st.q), zs := (wrY st z l (i + 1)).1, S := (wrY st z l (i + 1)).2 } V9) := sv9
      clear sv9 q0 q1 u2 t2 z0 z1 a0 a1 b0 b1 HC
      go_wp2
      go_roundw
      case rel => exact ⟨i + 1, by simp, by omega, H9.out, HSl.out⟩
      case measure => simp [intOf]; omega
    ·obtain rfl : i = j := by omega
     have HF : Hid (Sd (SdO D M k) W k (recM st z l) wr) := by
      have hlen : l.length = i := H.out.2.1.1
      unfold recM
      rw [hlen, Int.toNat_natCast]
      exact ⟨Di, Mi, hvi, hRi, hoi⟩
     have HL : Hid ((recM st z l).S.length ≤ st.S.length + i) := by
      have hlen : l.length = i := H.out.2.1.1
      unfold recM
      rw [hlen]
      exact hSl
     clear hvi hRi hoi hSl
     go_wp2
     first | go_end0 | refine bodyPost_ret (results_none rfl _ _ _) rfl ?_
     exact ⟨rfl, HF.out, HL.out⟩
end
end Go.Proofs.YtncnkpnfmbgifaaGreat
