/- Texts of this seat, one behind the other: ZRZn, DkSave. -/
import Derived.Test.YtncnkpnfmbgifaaGreatP20
import Derived.Test.YtncnkpnfmbgifaaGreatQ3
import Derived.Test.YtncnkpnfmbgifaaGreatP14
import Derived.Test.YtncnkpnfmbgifaaGreatQ1
import Derived.Deep.DeepCutAuto
/- What one call of the document's lent and Zones does. -/
namespace Go.Proofs.YtncnkpnfmbgifaaGreat
open Go.RowKit Go.Shelf
set_option linter.unusedVariables false
set_option maxRecDepth 4000

structure LtSt (w0 : World) (qb : Nat) (d : Int) (bs : List (List Int)) (k : Nat) (v : Value) (W : World) : Prop where
 box : Blk W qb [v, .int .i64 d] 120
 row : RowAt (fun x => qb ≤ x) W v (bs.take k)
 bel : Below qb w0 W
theorem LtSt.app {w0 W w3 : World} {qb : Nat} {d : Int} {bs : List (List Int)} {k : Nat} {v h : Value} {D : List Int} (st : LtSt w0 qb d bs k v W) (hD : bs[k]? = some D) (hk : k + 1 ≤ 100000) (hb : BkAt (fun x => W.heap.size ≤ x) w3 h D) (hbl : Below W.heap.size W w3) (ho : h.oneCell' = true) :
  ∃ a' c' w5, (Builtin.append_ #[42, 42] 42 #[v, .slice (some ⟨w3.heap.size, 0, none⟩) 1 1]).run Tryz.prog (w3.alloc (.cells #[h] 43)) = .ok (.slice a' (k + 1) c') w5 ∧ w5.cell? ⟨qb, 0, none⟩ = some v ∧ w5.frozen? ⟨qb, 0, none⟩ = false ∧ LtSt w0 qb d bs (k + 1) (.slice a' (k + 1) c') (w5.setCell ⟨qb, 0, none⟩ (.slice a' (k + 1) c')) := by
 have hlt := st.box.lt
 have hsz := hbl.size
 have hl : (bs.take k).length = k := by have := (List.getElem?_eq_some_iff.1 hD).1; simp; omega
 have row3 := st.row.out (below_out Non hbl) (fun _ _ e => e) (fun _ _ _ _ e => e)
 have bk3 := hb.mono (O' := fun x => qb ≤ x) (fun x hx _ => by omega)
 have := app_row row3 bk3 ho (by rw [hl]; exact hk) (fun x hx => by omega)
 rw [hl] at this
 obtain ⟨a', c', w5, r5, row5, g5, f5⟩ := this
 obtain ⟨uv, u1, u2, _⟩ := id row3
 have box3 := (below_out Non hbl).blk st.box id
 have box5 : Blk w5 qb [v, .int .i64 d] 120 := (box3.alloc _).grown (by decide) (u1.alloc _) g5
 refine ⟨a', c', w5, r5, box5.cell 0, box5.frozen 0, ⟨box5.set 0 _, ?_, ?_⟩⟩
 ·rw [take_snoc hD]
  exact out_row box5 (by decide) (by decide) 0 _ row5
 ·refine (((st.bel.trans (hbl.mono (by omega))).alloc (by omega) _).grown g5 (by simp; omega) (fun j e => u2 j e)).setCell (p := ⟨qb, 0, none⟩) (Nat.le_refl _) _

set_option maxHeartbeats 4000000 in
theorem rlent_of (a : Option Addr) (n c : Nat) (zs : List Zn) (W : World) (hx : ZsIn W a n zs) : Calls Tryz.prog 151 #[.slice a n c] W (ZonesE W zs) := by
 have hn : n ≤ 1000 := hx.2.1
 have H : Hid (ZsIn W a n zs) := hx
 clear hx
 go_enter Tryz.func151, Tryz.ntmps151
 go_wp2
 go_loopw [3, 4] (fun o x wr => ∃ i : Nat, x = .int .i64 i ∧ i ≤ n ∧ Below W.heap.size W wr ∧ ZsAt (fun x => W.heap.size ≤ x) wr o (zs.take i)) (fun o x wr => n - (intOf x).toNat)
 case atStart => exact ⟨0, rfl, Nat.zero_le _, Below.refl _ _, by simpa using ZsAt.nil _ _⟩
 case round =>
  obtain ⟨i, rfl, hi, hb, ho⟩ := hrel
  obtain ⟨w0, hw0⟩ : ∃ w0, w0 = wr := ⟨_, rfl⟩
  subst hw0
  have hl : (zs.take i).length = i := by have := H.out.1; simp; omega
  obtain ⟨oa, oc, hoe⟩ := ho.slice
  rw [hl] at hoe
  subst hoe
  rcases Nat.lt_or_ge i n with hlt | hge
  ·obtain ⟨z, hz⟩ : ∃ z, zs[i]? = some z := ⟨zs[i]'(by have := H.out.1; omega), by simp⟩
   obtain ⟨qb, hq⟩ : ∃ q, q = w0.heap.size := ⟨_, rfl⟩
   obtain ⟨b, off, rfl, hc⟩ := (H.out.below hb).2.2.resolve_left (by omega)
   obtain ⟨A, L, C, z0, z1, hbs⟩ := hc i z hz
   have hi' : (i : Int) < (n : Int) := by omega
   have hw1 : IntKind.i64.wrap ((i : Int) + 1) = (i : Int) + 1 := by rw [IntKind.wrap_i64]; omega
   have hLb := hbs.2.1
   have HI : Hid (zs[i]? = some z ∧ Below W.heap.size W w0 ∧ ZsAt (fun x => W.heap.size ≤ x) w0 (.slice oa i oc) (zs.take i) ∧ qb = w0.heap.size ∧ BsIn w0 A L z.1) := ⟨hz, hb, ho, hq, hbs⟩
   have HX : Hid (LtSt w0 qb z.2 z.1 0 (.slice none 0 0) (w0.alloc (.cells #[.slice none 0 0, .int .i64 z.2] 120))) := ⟨Blk.new' hq.symm rfl, by simpa using RowAt.nil _ _, (Below.refl _ _).alloc (by omega) _⟩
   clear hz hb ho hbs hc
   go_upto_region 6 with fail
   rw [← hq]
   generalize hVV : World.alloc _ _ = V at HX ⊢
   clear hVV hq
   go_wp2
   go_loopw [6] (fun x wr2 => ∃ k : Nat, x = .int .i64 k ∧ k ≤ L ∧ ∃ v, LtSt w0 qb z.2 z.1 k v wr2) (fun x wr2 => L - (intOf x).toNat)
   case atStart => exact ⟨0, rfl, Nat.zero_le _, _, HX.out⟩
   case round =>
    obtain ⟨k, rfl, hk, v, st⟩ := hrel
    have hbw : Below w0.heap.size w0 wr := by rw [← HI.out.2.2.2.1]; exact st.bel
    have y0 := (hbw.cell (old_block z0)).trans z0
    have hv9 := st.row.slice
    have hlk : (z.1.take k).length = k := by have := HI.out.2.2.2.2.1; simp; omega
    obtain ⟨va, vc, hv⟩ := hv9
    rw [hlk] at hv
    subst hv
    have x0 : wr.cell? ⟨qb, 0, none⟩ = some (.slice va k vc) := st.box.cell 0
    rcases Nat.lt_or_ge k L with hkl | hkl
    ·obtain ⟨D, hD⟩ : ∃ D, z.1[k]? = some D := ⟨z.1[k]'(by have := HI.out.2.2.2.2.1; omega), by simp⟩
     obtain ⟨b2, off2, rfl, hc2⟩ := (HI.out.2.2.2.2.below hbw).2.2.resolve_left (by omega)
     obtain ⟨v2, y2, A2, L2, C2, rfl, k2, k3, k4, k5⟩ := hc2 k D hD
     have hk' : (k : Int) < (L : Int) := by omega
     have hw2 : IntKind.i64.wrap ((k : Int) + 1) = (k : Int) + 1 := by rw [IntKind.wrap_i64]; omega
     have HC : Hid (Calls Tryz.prog 141 #[.slice A2 L2 C2] wr.drew (LentE wr.drew D)) := rLent_of A2 L2 C2 D wr.drew (k2.below (Below.refl _ _).drew) k3 (by omega)
     have HA : Hid (∀ w3 h, BkAt (fun x => wr.heap.size ≤ x) w3 h D → Below wr.heap.size wr w3 → h.oneCell' = true → ∃ a' c' w5, (Builtin.append_ #[42, 42] 42 #[.slice va k vc, .slice (some ⟨w3.heap.size, 0, none⟩) 1 1]).run Tryz.prog (w3.alloc (.cells #[h] 43)) = .ok (.slice a' (k + 1) c') w5 ∧ w5.cell? ⟨qb, 0, none⟩ = some (.slice va k vc) ∧ w5.frozen? ⟨qb, 0, none⟩ = false ∧ LtSt w0 qb z.2 z.1 (k + 1) (.slice a' (k + 1) c') (w5.setCell ⟨qb, 0, none⟩ (.slice a' (k + 1) c'))) := fun w3 h e1 e2 e3 => st.app hD (by omega) e1 e2 e3
     have HB : Hid (Blk wr qb [.slice va k vc, .int .i64 z.2] 120) := st.box
     clear st hbw z0 z1 hc2 k2 k3 k4 k5
     go_wp2
     refine wp_region_noPanic ?_
     go_region_law (first
      | (go_simp; go_at_call 141; refine HC.out.mono ?_; rintro e w3 ⟨h3, rfl, bk3, b3⟩; obtain ⟨x3, y3, e3⟩ := own_slice bk3.1; subst e3; have b4 : Below wr.heap.size wr w3 := ⟨b3.os, b3.tape, b3.output, b3.size, b3.block⟩; obtain ⟨a9, c9, w9, e9, m9, f9, s9⟩ := HA.out w3 _ bk3 b4 rfl; have q3 : w3.cell? ⟨qb, 0, none⟩ = some (.slice va k vc) := (b4.cell HB.out.lt).trans x0; have q4 : ∀ o, (w3.alloc o).cell? ⟨qb, 0, none⟩ = some (.slice va k vc) := fun o => (((Below.refl w3.heap.size w3).alloc (Nat.le_refl _) o).cell (old_block q3)).trans q3)
      | (refine step_append_run rfl (.tmp 30) (.tmp 40) 42 42 rfl _ _ rfl rfl _ _ e9 ?_))
     all_goals
      have HF : Hid (LtSt w0 qb z.2 z.1 (k + 1) (.slice a9 (k + 1) c9) (w9.setCell ⟨qb, 0, none⟩ (.slice a9 (k + 1) c9))) := s9
      clear e9 m9 f9 s9 bk3 b3 b4 q3 q4
      refine NoPanic.normal ?_
      generalize World.setCell _ _ _ = V9 at HF ⊢
      go_wp2
      go_roundw
      case rel => exact ⟨k + 1, by simp, by omega, _, HF.out⟩
      case measure => simp [intOf]; omega
    ·obtain rfl : k = L := by omega
     have hA := app_zone (u := .slice va k vc) (d := z.2) HI.out.2.2.1 hbw (by rw [← HI.out.2.2.2.1]; exact st.row) rfl (by rw [hl]; omega) (fun x hx => by have := HI.out.2.1.size; omega)
     rw [hl] at hA
     obtain ⟨a9, c9, w9, e9, z9, g9⟩ := hA
     have hfull : z.1.take k = z.1 := List.take_of_length_le (by have := HI.out.2.2.2.2.1; omega)
     rw [hfull] at z9
     have x1 : wr.cell? ⟨qb, 1, none⟩ = some (.int .i64 z.2) := st.box.cell 1
     have HF : Hid (ZsAt (fun x => W.heap.size ≤ x) w9 (.slice a9 (i + 1) c9) (zs.take (i + 1)) ∧ Below W.heap.size W w9) := by
      refine ⟨by rw [take_snoc HI.out.1]; exact z9, ?_⟩
      have hs := HI.out.2.1.size
      have hs2 := hbw.size
      refine ((HI.out.2.1.trans (hbw.mono hs)).alloc (by omega) _).grown g9 (by simp; omega) (fun k e => ?_)
      obtain ⟨vs9, q1, q2, _⟩ := HI.out.2.2.1
      exact q2 k e
     have HR : Hid ((Builtin.append_ #[86, 86] 86 #[.slice oa i oc, .slice (some ⟨wr.heap.size, 0, none⟩) 1 1]).run Tryz.prog (wr.alloc (.cells #[.slice va k vc, .int .i64 z.2] 120)) = .ok (.slice a9 (i + 1) c9) w9) := e9
     clear e9 z9 g9 hfull st hbw z0 z1
     go_wp2_with (at_builtin; refine wpList_append_run rfl (.tmp 43) (.tmp 45) 86 86 rfl _ _ rfl rfl _ _ HR.out ?_)
     go_roundw
     case rel => exact ⟨i + 1, by simp, by omega, HF.out.2, HF.out.1⟩
     case measure => simp [intOf]; omega
  ·obtain rfl : i = n := by omega
   have HS : Hid (ZsAt (fun x => W.heap.size ≤ x) w0 (.slice oa i oc) zs ∧ Below W.heap.size W w0) := ⟨by rw [List.take_of_length_le (by have := H.out.1; omega)] at ho; exact ho, hb⟩
   clear hb ho
   go_wp2
   go_ret
   exact ⟨_, rfl, HS.out.1, HS.out.2⟩

section
variable {O : Nat → Prop} {W : World} {p : Nat} {s : Sh} {zs : List Zn}
theorem rZones_of (hd : Dv 88 O W p s zs) (hs : ShortZ zs) : Calls Tryz.prog 104 #[.pointer (some ⟨p, 0, none⟩)] W (ZonesE W zs) := by
 obtain ⟨g, cz, vs, hv⟩ := hd
 have c4 := hv.pcell.2.2.2.2
 have HC : Hid (Calls Tryz.prog 151 #[.slice (some ⟨g, 0, none⟩) zs.length cz] W (ZonesE W zs)) := rlent_of _ _ _ zs W (hv.all.zsin hs)
 clear hv
 go_enter Tryz.func104, Tryz.ntmps104
 go_wp2_with (go_at_call 151; refine HC.out.mono ?_; rintro e w3 ⟨v, rfl, hz, hb⟩)
 go_ret
 exact ⟨v, rfl, hz, hb⟩
end
end Go.Proofs.YtncnkpnfmbgifaaGreat

/- What one call of the document's own Save does. -/
namespace Go.Proofs.YtncnkpnfmbgifaaGreat
open Go.RowKit Go.Shelf
set_option linter.unusedVariables false
set_option maxRecDepth 4000

theorem rShape_of {O : Nat → Prop} {W : World} {p : Nat} {s : Sh} {zs : List Zn} (hd : Dv 88 O W p s zs) :
  Calls Tryz.prog 129 #[.pointer (some ⟨p, 0, none⟩)] W fun e w' => e = .returned (.agg (shL s).toArray) ∧ Below W.heap.size W w' := by
 obtain ⟨g, c, vs, hv⟩ := hd
 obtain ⟨q, hq⟩ : ∃ q, q = W.heap.size := ⟨_, rfl⟩
 have hb : Blk (W.alloc (.cells #[.int .i64 0, .int .i64 0, .int .i64 0, .int .i64 0] 23)) q [.int .i64 0, .int .i64 0, .int .i64 0, .int .i64 0] 23 := Blk.new' hq.symm rfl
 have hbel : Below q W (W.alloc (.cells #[.int .i64 0, .int .i64 0, .int .i64 0, .int .i64 0] 23)) := (Below.refl _ _).alloc (by omega) _
 have hv' := hv.under (by rw [← hq]; exact hbel)
 rw [← hq]
 go_enter Tryz.func129, Tryz.ntmps129
 go_upto_region 1 with fail
 rw [← hq]
 generalize hW1 : World.alloc _ _ = W1 at *
 obtain ⟨c0, c1, c2, c3, c4⟩ := hv'.pcell
 have e0 : W1.cell? ⟨q, 0, none⟩ = some (.int .i64 0) := hb.cell 0
 have e1 : W1.cell? ⟨q, 1, none⟩ = some (.int .i64 0) := hb.cell 1
 have e2 : W1.cell? ⟨q, 2, none⟩ = some (.int .i64 0) := hb.cell 2
 have e3 : W1.cell? ⟨q, 3, none⟩ = some (.int .i64 0) := hb.cell 3
 have f0 := hb.frozen 0
 have f1 := hb.frozen 1
 have f2 := hb.frozen 2
 have f3 := hb.frozen 3
 have HB : Hid (Blk W1 q [.int .i64 0, .int .i64 0, .int .i64 0, .int .i64 0] 23 ∧ Below q W W1) := ⟨hb, hbel⟩
 clear hb hbel hv hv' hW1 hq
 go_wp2
 refine bodyPost_ret (results_cell_one (p := 2) (ty := 23) rfl _ _ q [.int .i64 s.z, .int .i64 s.zb, .int .i64 s.b, .int .i64 s.r] _ _ rfl ((((HB.out.1.set 0 _).set 1 _).set 2 _).set 3 _) Tryz.underlying23 rfl Tryz.info_shape) rfl ⟨rfl, ?_⟩
 exact (((HB.out.2.setCell (p := ⟨q, 0, none⟩) (Nat.le_refl _) _).setCell (p := ⟨q, 1, none⟩) (Nat.le_refl _) _).setCell (p := ⟨q, 2, none⟩) (Nat.le_refl _) _).setCell (p := ⟨q, 3, none⟩) (Nat.le_refl _) _
set_option maxHeartbeats 4000000 in
theorem dkSave_of (slot seq : Int) (A : Option Addr) (n C : Nat) (ps : List Pl) {O : Nat → Prop} {W : World} {p : Nat} {s : Sh} {zs : List Zn} (hd : Dv 88 O W p s zs) (hw : Wf s zs) (hs : FitsU seq) (hk : KIn W A n ps) (hn : n ≤ 100000000) :
  Calls Tryz.prog 78 #[.pointer (some ⟨p, 0, none⟩), .int .i64 slot, .agg #[.int .u64 seq, .slice A n C]] W (Saved 88 .i64 O W p s zs slot seq ps) := by
 obtain ⟨q, hq⟩ : ∃ q, q = W.heap.size := ⟨_, rfl⟩
 have H : Hid (Dv 88 O W p s zs ∧ Wf s zs ∧ FitsU seq ∧ KIn W A n ps ∧ n ≤ 100000000 ∧ q = W.heap.size) := ⟨hd, hw, hs, hk, hn, hq⟩
 have HW : Hid (Blk (W.alloc (.cells #[.int .u64 seq, .slice A n C] 133)) q [.int .u64 seq, .slice A n C] 133 ∧ Below W.heap.size W (W.alloc (.cells #[.int .u64 seq, .slice A n C] 133))) := ⟨Blk.new' hq.symm rfl, (Below.refl _ _).alloc (Nat.le_refl _) _⟩
 clear hd hw hs hk hn
 by_cases hsl : 0 ≤ slot ∧ slot < 2
 ·obtain ⟨i, rfl⟩ : ∃ i : Nat, slot = i := ⟨slot.toNat, by omega⟩
  have hi2 : (i : Int) < 2 := hsl.2
  obtain ⟨E, hE⟩ : ∃ E, E = ckE s ps := ⟨_, rfl⟩
  have HE : Hid (E = ckE s ps ∧ svE s i ps = E ∧ i < 2) := ⟨hE, by unfold svE; rw [if_pos hsl, hE], by omega⟩
  clear hE hsl
  go_enter Tryz.func78, Tryz.ntmps78
  go_upto_region 1 with fail
  rw [← hq]
  clear hq
  generalize hW1 : World.alloc W _ = W1 at HW ⊢
  clear hW1
  go_cut [15] (fun v X => v = .bool false ∧ X = W1)
  case first =>
   have h01 : i = 0 ∨ i = 1 := by have := HE.out.2.2; omega
   rcases h01 with rfl | rfl
   ·go_wp2_with fail
    go_meet
    exact ⟨rfl, rfl⟩
   ·go_wp2_with fail
    go_meet
    exact ⟨rfl, rfl⟩
  case rest =>
  obtain ⟨rfl, hX⟩ := hcut
  replace hX := hX.symm
  subst hX
  go_upto_region 3 with fail
  have c0 : W1.cell? ⟨q, 0, none⟩ = some (.int .u64 seq) := HW.out.1.cell 0
  have c1 : W1.cell? ⟨q, 1, none⟩ = some (.slice A n C) := HW.out.1.cell 1
  have HSh : Hid (∀ X, Below W1.heap.size W1 X → Calls Tryz.prog 129 #[.pointer (some ⟨p, 0, none⟩)] X fun e Y => e = .returned (.agg (shL s).toArray) ∧ Below W1.heap.size W1 Y ∧ Y.cell? ⟨q, 0, none⟩ = some (.int .u64 seq) ∧ Y.cell? ⟨q, 1, none⟩ = some (.slice A n C)) := by
   intro X hX
   refine (rShape_of (kdv_under (kdv_under H.out.1 HW.out.2) hX)).mono ?_
   rintro e Y ⟨rfl, hY⟩
   have hb := hX.trans (hY.mono hX.size)
   have kb := HW.out.1.below hb HW.out.1.lt
   exact ⟨rfl, hb, kb.cell 0, kb.cell 1⟩
  have HEn : Hid (∀ X, Below W1.heap.size W1 X → Calls Tryz.prog 128 #[.agg (shL s).toArray, .agg #[.int .u64 seq, .slice A n C]] X fun e Z => ∃ av nv cv, e = .returned (.tuple #[.slice av nv cv, .int .i64 E]) ∧ RowAt (fun j => W.heap.size ≤ j ∧ j < Z.heap.size) Z (.slice av nv cv) (ckO s seq ps) ∧ Below W.heap.size W Z ∧ Z.cell? ⟨q, 0, none⟩ = some (.int .u64 seq) ∧ Z.cell? ⟨q, 1, none⟩ = some (.slice A n C)) := by
   intro X hX
   have hbX := HW.out.2.trans (hX.mono HW.out.2.size)
   refine (dkEncode_of s seq A n C ps X (by have := H.out.2.1.right.1; omega) H.out.2.2.1 (H.out.2.2.2.1.below hbX) H.out.2.2.2.2.1).mono ?_
   rintro e Z ⟨v, rfl, rZ, bZ⟩
   obtain ⟨av, cv, rfl⟩ := rZ.slice
   have hb := hX.trans (bZ.mono hX.size)
   have kb := HW.out.1.below hb HW.out.1.lt
   exact ⟨av, _, cv, by rw [HE.out.1], rZ.mono (fun c hc hlt => ⟨Nat.le_trans hbX.size hc, hlt⟩), hbX.trans (bZ.mono hbX.size), kb.cell 0, kb.cell 1⟩
  go_region_held3 (fun X => X.cell? ⟨q, 0, none⟩ = some (.int .u64 seq) ∧ X.cell? ⟨q, 1, none⟩ = some (.slice A n C)) (first | exact ⟨c0, c1⟩ | exact ⟨d0, d1⟩ | exact ⟨e0, e1⟩)
   (first
   | (go_simp; go_at_call 128; refine (HEn.out _ (by exact bY)).mono ?_; rintro e Z ⟨av, nv, cv, rfl, rZ, bZ, e0, e1⟩)
   | (go_simp; go_at_call 129; refine (HSh.out _ (by exact (Below.refl _ _).drew)).mono ?_; rintro e Y ⟨rfl, bY, d0, d1⟩))
  all_goals (
   have HZ : Hid (RowAt (fun j => W.heap.size ≤ j ∧ j < Z.heap.size) Z (.slice av nv cv) (ckO s seq ps) ∧ Below W.heap.size W Z) := ⟨rZ, bZ⟩
   clear rZ bZ e0 e1 d0 d1 bY HEn HSh c0 c1
   by_cases hE0 : E = 0
   ·subst hE0
    have hck : ckE s ps = 0 := HE.out.1.symm
    obtain ⟨ls, hls⟩ : ∃ ls, ls = ckL s seq ps := ⟨_, rfl⟩
    have hO : ckO s seq ps = ls := by unfold ckO; rw [if_pos hck, hls]
    have hsz := ckL_size (seq := seq) hck
    have hsh := ckL_short (seq := seq) hck
    rw [← hls] at hsz hsh
    have hlz : (ls.length : Int) ≤ s.zb := by rw [hls, ckL_length]; exact (ckE_zero.1 hck).2
    have hnv : nv = ls.length := by obtain ⟨_, _, e⟩ := HZ.out.1.slice; cases e; rw [hO]
    have hiz : i < zs.length := by have h1 := H.out.2.1.len; have h2 := H.out.2.1.right.1; have := HE.out.2.2; omega
    have hd1 : Dv 88 (fun x => O x ∧ x < W.heap.size) Z p s zs := kdv_under H.out.1.there HZ.out.2
    have HL : Hid (ls = ckL s seq ps ∧ ckO s seq ps = ls ∧ (∀ D ∈ ls, (D.length : Int) = s.b) ∧ Short ls ∧ (ls.length : Int) ≤ s.zb ∧ nv = ls.length ∧ i < zs.length ∧ RowAt (fun j => W.heap.size ≤ j ∧ j < Z.heap.size) Z (.slice av nv cv) ls ∧ Below W.heap.size W Z) := ⟨hls, hO, hsz, hsh, hlz, hnv, hiz, by rw [← hO]; exact HZ.out.1, HZ.out.2⟩
    have HD : Hid (Dv 88 (fun x => O x ∧ x < W.heap.size) Z p s zs) := hd1
    have hnv4 : nv ≤ 4096 := by have h1 := H.out.2.1.right.2.2.2.1; omega
    clear hls hO hsz hsh hlz hnv hiz hd1 hck HZ
    go_upto_region 7 with (go_at_call 99; refine (rReset_of (i : Int) HD.out).mono ?_; rintro e V ⟨rfl, sV⟩)
    rw [resetZ_in] at sV
    have HV : Hid (SvSt 88 (fun x => O x ∧ x < W.heap.size) Z p s (zs.set i (ls.take 0, 0)) V) := by
     have := SvSt.step (O := fun x => O x ∧ x < W.heap.size) (W := Z) (fun x h => .inl h) (Out.refl _ _) sV
     show SvSt 88 (fun x => O x ∧ x < W.heap.size) Z p s (zs.set i (ls.take 0, 0)) V
     simpa using this
    clear sV
    go_wp2
    go_loopw [9] (fun x wr => ∃ k : Nat, x = .int .i64 k ∧ k ≤ nv ∧ SvSt 88 (fun x => O x ∧ x < W.heap.size) Z p s (zs.set i (ls.take k, 0)) wr) (fun x _ => nv - (intOf x).toNat)
    case atStart => exact ⟨0, rfl, Nat.zero_le _, HV.out⟩
    case round =>
     obtain ⟨k, rfl, hk, O', hdk, hOk, hok⟩ := hrel
     rcases Nat.lt_or_ge k nv with hlt | hge
     ·obtain ⟨D, hD⟩ : ∃ D, ls[k]? = some D := ⟨ls[k]'(by have := HL.out.2.2.2.2.2.1; omega), by simp⟩
      have row := HL.out.2.2.2.2.2.2.2.1.out hok (fun r e h => by obtain ⟨_, _, r2, _⟩ := HL.out.2.2.2.2.2.2.2.1; have := r2 r e; omega) (fun c _ hc _ h => by omega)
      obtain ⟨b', off, A1, L1, C1, hA, k1, k2, k3, _, k5⟩ := (row.bsin HL.out.2.2.2.1).at hD
      subst hA
      have hAp := rAppend_of (i : Int) A1 L1 C1 D hdk (wf_put H.out.2.1 i k HL.out.2.2.1 HL.out.2.2.2.2.1) k2 k3 k5
      have hk' : (k : Int) < nv := by omega
      have hwk : IntKind.i64.wrap ((k : Int) + 1) = (k : Int) + 1 := by rw [IntKind.wrap_i64]; omega
      have HA : Hid (Calls Tryz.prog 130 #[.pointer (some ⟨p, 0, none⟩), .int .i64 (i : Int), .slice A1 L1 C1] wr fun e w' => (∃ v, e = .returned v) ∧ SvSt 88 (fun x => O x ∧ x < W.heap.size) Z p s (zs.set i (ls.take (k + 1), 0)) w') := by
       refine hAp.mono ?_
       rintro e w' ⟨rfl, st⟩
       rw [app_next HL.out.2.2.2.2.2.2.1 hD (HL.out.2.2.1 D (List.mem_of_getElem? hD)) HL.out.2.2.2.2.1] at st
       exact ⟨⟨_, rfl⟩, SvSt.step hOk hok st⟩
      clear hAp row k2 k3 k5 hD hdk hOk hok
      go_wp2_with (go_at_call 130; refine HA.out.mono ?_; rintro e w9 ⟨⟨v9, rfl⟩, st9⟩)
      have H9 : Hid (SvSt 88 (fun x => O x ∧ x < W.heap.size) Z p s (zs.set i (ls.take (k + 1), 0)) w9) := st9
      clear st9
      go_roundw
      case rel => exact ⟨k + 1, by simp, by omega, H9.out⟩
      case measure => simp [intOf]; omega
     ·obtain rfl : k = nv := by omega
      have htk : ls.take k = ls := List.take_of_length_le (by rw [HL.out.2.2.2.2.2.1]; exact Nat.le_refl _)
      rw [htk] at hdk
      have HF : Hid (Calls Tryz.prog 96 #[.pointer (some ⟨p, 0, none⟩)] wr fun e w' => (∃ v, e = .returned v) ∧ SvSt 88 O W p s (putZ zs i ls) w') := by
       refine (rFlush_of hdk).mono ?_
       rintro e w' ⟨hv, st⟩
       exact ⟨hv, SvSt.of (O1 := fun x => O x ∧ x < W.heap.size) (fun x h => h.1) HL.out.2.2.2.2.2.2.2.2 (SvSt.step hOk hok st)⟩
      clear hdk hOk hok htk
      go_wp2_with (go_at_call 96; refine HF.out.mono ?_; rintro e w9 ⟨⟨v9, rfl⟩, st9⟩)
      go_ret
      refine ⟨by rw [HE.out.2.1]; rfl, ?_⟩
      unfold svZ
      rw [if_pos HE.out.2.1, Int.toNat_natCast, ← HL.out.1]
      exact st9
   ·have hEb : (E != 0) = true := by simp [hE0]
    have HN : Hid (SvSt 88 O W p s (svZ s zs i seq ps) Z) := by
     have : svZ s zs i seq ps = zs := by unfold svZ; rw [if_neg (by rw [HE.out.2.1]; exact hE0)]
     rw [this]
     exact (SvSt.start H.out.1).under HZ.out.2
    clear hE0 HZ
    go_wp2
    go_ret
    exact ⟨by rw [HE.out.2.1]; rfl, HN.out⟩)
 ·have HN : Hid (∀ X, Below W.heap.size W X → Saved 88 .i64 O W p s zs slot seq ps (.returned (.int .i64 1)) X) := by
   intro X hX
   have h1 : svE s slot ps = 1 := by unfold svE; rw [if_neg hsl]
   refine ⟨by rw [h1], ?_⟩
   have : svZ s zs slot seq ps = zs := by unfold svZ; rw [if_neg (by rw [h1]; decide)]
   rw [this]
   exact (SvSt.start H.out.1).under hX
  have h0 : (slot != 0) = true := by simp; omega
  have h1 : (slot != 1) = true := by simp; omega
  clear hsl
  go_enter Tryz.func78, Tryz.ntmps78
  go_wp2
  go_ret
  exact HN.out _ HW.out.2
end Go.Proofs.YtncnkpnfmbgifaaGreat
