/- Texts of this seat, one behind the other: ZRefOps, ZRZn, DkOpn, ZRApp. -/
import Derived.Test.YteokhkoaieibmaaJ11
import Derived.Test.YteokhkoaieibmaaJ16
import Derived.Test.YteokhkoaieibmaaJ12
/- What one call of the document's At, Reset, Flush does. -/
namespace Go.Proofs.Yteokhkoaieibmaa
open Go.RowKit Go.Shelf
set_option linter.unusedVariables false
set_option maxRecDepth 4000
section
variable {O : Nat → Prop} {W : World} {p : Nat} {s : Sh} {zs : List Zn}
theorem out_cases {zs : List Zn} {zn : Int} (h : ¬ (0 ≤ zn ∧ zn ≤ (zs.length : Int) - 1)) : zn < 0 ∨ (¬ zn < 0 ∧ (zs.length : Int) ≤ zn) := by omega
theorem rAt_of (zn : Int) (hd : Dv 108 O W p s zs) :
    Calls Try.prog 50 #[.pointer (some ⟨p, 0, none⟩), .int .i64 zn] W fun e w' => e = .returned (.tuple #[.int .i64 ((atZ zs zn).1.length : Nat), .int .i64 (atZ zs zn).2]) ∧ Below W.heap.size W w' := by
  obtain ⟨g, c, vs, hv⟩ := hd
  have c4 := hv.pcell.2.2.2.2
  rcases zone_cases zs zn with ⟨i, z, rfl, hz, hi, hb⟩ | ⟨hn, hb⟩
  · rw [atZ_in hz]
    obtain ⟨a, cc, hu, hr, z0, z1⟩ := hv.at hz
    have hi' : (i : Int) < zs.length := by omega
    clear hv hr hz hu hb
    go_enter Try.func50, Try.ntmps50
    go_wp2
    go_quiet (fail)
    go_wp2
    go_ret2
    exact ⟨rfl, below_drewN _ _⟩
  · rw [atZ_out hn]
    rcases out_cases hn with h | ⟨h1, h2⟩
    · clear hb hn hv
      go_enter Try.func50, Try.ntmps50
      go_wp2
      go_ret2
      exact ⟨rfl, Below.refl _ _⟩
    · clear hb hn hv
      go_enter Try.func50, Try.ntmps50
      go_wp2
      go_ret2
      exact ⟨rfl, Below.refl _ _⟩
theorem rReset_of (zn : Int) (hd : Dv 108 O W p s zs) :
    Calls Try.prog 54 #[.pointer (some ⟨p, 0, none⟩), .int .i64 zn] W fun e w' => e = .returned (.int .i64 (resetE zs zn)) ∧ Step 108 O W p s (resetZ zs zn) w' := by
  obtain ⟨g, c, vs, hv⟩ := hd
  have c4 := hv.pcell.2.2.2.2
  rcases zone_cases zs zn with ⟨i, z, rfl, hz, hi, hb⟩ | ⟨hn, hb⟩
  · rw [resetZ_in, resetE, if_pos (by omega)]
    obtain ⟨a, cc, hu, hr, z0, z1⟩ := hv.at hz
    have f0 := hv.free (i * 2)
    have f1 := hv.free (i * 2 + 1)
    have HR : Hid (Step 108 O W p s (zs.set i ([], 0)) ((W.setCell ⟨g, i * 2, none⟩ (.slice none 0 0)).setCell ⟨g, i * 2 + 1, none⟩ (.int .i64 0))) := hv.reset hz
    have hi' : (i : Int) < zs.length := by omega
    clear hv hr hz hu hb
    go_enter Try.func54, Try.ntmps54
    go_wp2
    go_ret
    exact ⟨rfl, HR.out⟩
  · rw [resetZ_out hn, resetE, if_neg hn]
    have HD : Hid (Step 108 O W p s zs W) := step_of ⟨g, c, vs, hv⟩ (Out.refl _ _)
    rcases out_cases hn with h | ⟨h1, h2⟩
    · clear hb hn hv
      go_enter Try.func54, Try.ntmps54
      go_wp2
      go_ret
      exact ⟨rfl, HD.out⟩
    · clear hb hn hv
      go_enter Try.func54, Try.ntmps54
      go_wp2
      go_ret
      exact ⟨rfl, HD.out⟩

set_option maxHeartbeats 2000000 in
theorem rFlush_of (hd : Dv 108 O W p s zs) :
    Calls Try.prog 56 #[.pointer (some ⟨p, 0, none⟩)] W fun e w' => (∃ v, e = .returned v) ∧ Step 108 O W p s (flushZ zs) w' := by
  obtain ⟨g, c, vs, hv⟩ := hd
  have hl := hv.small
  have HV : Hid (DvV 108 O W p s zs g c vs) := hv
  clear hv
  generalize hN : zs.length = N at *
  go_enter Try.func56, Try.ntmps56
  go_wp2
  go_loopw [2] (fun x wr => ∃ i : Nat, x = .int .i64 i ∧ i ≤ N ∧ DvV 108 O wr p s (upTo (fun _ z => fl z) zs i) g c vs ∧ Out O W wr) (fun x wr => N - (intOf x).toNat)
  case atStart => exact ⟨0, rfl, Nat.zero_le _, by rw [upTo_zero]; exact HV.out, Out.refl _ _⟩
  case round =>
    obtain ⟨i, rfl, hi, hv, ho⟩ := hrel
    have c4' := hv.pcell.2.2.2.2
    rw [upTo_length, hN] at c4'
    rcases Nat.lt_or_ge i N with hlt | hge
    · obtain ⟨z, hz⟩ : ∃ z, zs[i]? = some z := ⟨zs[i]'(by omega), by simp⟩
      obtain ⟨a, cc, hu, hr, z0, z1⟩ := hv.at ((upTo_get _ _ _).trans hz)
      have f1 := hv.free (i * 2 + 1)
      have HS : Hid (DvV 108 O (wr.setCell ⟨g, i * 2 + 1, none⟩ (.int .i64 (z.1.length : Nat))) p s (upTo (fun _ z => fl z) zs (i + 1)) g c vs ∧ Out O W (wr.setCell ⟨g, i * 2 + 1, none⟩ (.int .i64 (z.1.length : Nat)))) := by
        refine ⟨?_, ho.setCell (p := ⟨g, i * 2 + 1, none⟩) (.inl hv.og) _⟩
        have := hv.setD ((upTo_get _ _ _).trans hz) (z.1.length : Nat)
        rw [← upTo_next _ _ hz]
        exact this
      have hi' : (i : Int) < (N : Int) := by omega
      have hw : IntKind.i64.wrap ((i : Int) + 1) = (i : Int) + 1 := by rw [IntKind.wrap_i64]; omega
      have k4 := HS.out.1.pcell.2.2.2.2
      rw [upTo_length, hN] at k4
      have k0 : (wr.setCell ⟨g, i * 2 + 1, none⟩ (.int .i64 (z.1.length : Nat))).cell? ⟨g, i * 2, none⟩ = some (.slice a z.1.length cc) := by
        rw [World.cell?_setCell_other _ _ _ _ (by intro e; injection e with _ e; omega)]; exact z0
      clear hv ho hr hu
      go_wp2
      go_region_held3 (fun w' => w'.cell? ⟨p, 4, none⟩ = some (.slice (some ⟨g, 0, none⟩) N c) ∧ w'.cell? ⟨g, i * 2, none⟩ = some (.slice a z.1.length cc)) (first | exact ⟨c4', z0⟩ | exact ⟨k4, k0⟩) (fail)
      clear z0 z1 c4' k4 k0
      generalize World.setCell _ _ _ = V at HS ⊢
      go_wp2
      go_roundw
      case rel => exact ⟨i + 1, by simp, by omega, HS.out.1.under (Below.refl _ _).drew, HS.out.2.drew⟩
      case measure => simp [intOf]; omega
    · obtain rfl : i = N := by omega
      have HS : Hid (DvV 108 O wr p s (upTo (fun _ z => fl z) zs i) g c vs ∧ Out O W wr) := ⟨hv, ho⟩
      clear hv ho
      go_wp2
      go_end0
      refine ⟨⟨_, rfl⟩, step_of ⟨g, c, vs, ?_⟩ HS.out.2⟩
      have := HS.out.1
      rw [upTo_all _ _ (by omega)] at this
      exact this
end
end Go.Proofs.Yteokhkoaieibmaa

/- What one call of the document's lent and Zones does. -/
namespace Go.Proofs.Yteokhkoaieibmaa
open Go.RowKit Go.Shelf
set_option linter.unusedVariables false
set_option maxRecDepth 4000

/-- A zone that is being copied: in a box of its own. -/
structure LtSt (w0 : World) (qb : Nat) (d : Int) (bs : List (List Int)) (k : Nat) (v : Value) (W : World) : Prop where
  box : Blk W qb [v, .int .i64 d] 76
  row : RowAt (fun x => qb ≤ x) W v (bs.take k)
  bel : Below qb w0 W
theorem LtSt.app {w0 W w3 : World} {qb : Nat} {d : Int} {bs : List (List Int)} {k : Nat} {v h : Value} {D : List Int} (st : LtSt w0 qb d bs k v W) (hD : bs[k]? = some D) (hk : k + 1 ≤ 100000) (hb : BkAt (fun x => W.heap.size ≤ x) w3 h D) (hbl : Below W.heap.size W w3) (ho : h.oneCell' = true) :
    ∃ a' c' w5, (Builtin.append_ #[28, 28] 28 #[v, .slice (some ⟨w3.heap.size, 0, none⟩) 1 1]).run Try.prog (w3.alloc (.cells #[h] 39)) = .ok (.slice a' (k + 1) c') w5 ∧ w5.cell? ⟨qb, 0, none⟩ = some v ∧ w5.frozen? ⟨qb, 0, none⟩ = false ∧ LtSt w0 qb d bs (k + 1) (.slice a' (k + 1) c') (w5.setCell ⟨qb, 0, none⟩ (.slice a' (k + 1) c')) := by
  have hlt := st.box.lt
  have hsz := hbl.size
  have hl : (bs.take k).length = k := by have := (List.getElem?_eq_some_iff.1 hD).1; simp; omega
  have row3 := st.row.out (below_out Non hbl) (fun _ _ e => e) (fun _ _ _ _ e => e)
  have bk3 := hb.mono (O' := fun x => qb ≤ x) (fun x hx _ => by omega)
  have := app_row row3 bk3 ho (by rw [hl]; exact hk) (fun x hx => by omega)
  rw [hl] at this
  obtain ⟨a', c', w5, r5, row5, g5, f5⟩ := this
  obtain ⟨uv, u1, u2, _⟩ := id row3
  have box3 := (below_out Non hbl).blk st.box id
  have box5 : Blk w5 qb [v, .int .i64 d] 76 := (box3.alloc _).grown (by decide) (u1.alloc _) g5
  refine ⟨a', c', w5, r5, box5.cell 0, box5.frozen 0, ⟨box5.set 0 _, ?_, ?_⟩⟩
  · rw [take_snoc hD]
    exact out_row box5 (by decide) (by decide) 0 _ row5
  · refine (((st.bel.trans (hbl.mono (by omega))).alloc (by omega) _).grown g5 (by simp; omega) (fun j e => u2 j e)).setCell (p := ⟨qb, 0, none⟩) (Nat.le_refl _) _

set_option maxHeartbeats 4000000 in
theorem rlent_of (a : Option Addr) (n c : Nat) (zs : List Zn) (W : World) (hx : ZsIn W a n zs) : Calls Try.prog 58 #[.slice a n c] W (ZonesE W zs) := by
  have hn : n ≤ 1000 := hx.2.1
  have H : Hid (ZsIn W a n zs) := hx
  clear hx
  go_enter Try.func58, Try.ntmps58
  go_wp2
  go_loopw [3, 4] (fun o x wr => ∃ i : Nat, x = .int .i64 i ∧ i ≤ n ∧ Below W.heap.size W wr ∧ ZsAt (fun x => W.heap.size ≤ x) wr o (zs.take i)) (fun o x wr => n - (intOf x).toNat)
  case atStart => exact ⟨0, rfl, Nat.zero_le _, Below.refl _ _, by simpa using ZsAt.nil _ _⟩
  case round =>
    obtain ⟨i, rfl, hi, hb, ho⟩ := hrel
    obtain ⟨w0, hw0⟩ : ∃ w0, w0 = wr := ⟨_, rfl⟩
    subst hw0
    have hl : (zs.take i).length = i := by have := H.out.1; simp; omega
    obtain ⟨oa, oc, hoe⟩ := ho.slice
    rw [hl] at hoe
    subst hoe
    rcases Nat.lt_or_ge i n with hlt | hge
    · obtain ⟨z, hz⟩ : ∃ z, zs[i]? = some z := ⟨zs[i]'(by have := H.out.1; omega), by simp⟩
      obtain ⟨qb, hq⟩ : ∃ q, q = w0.heap.size := ⟨_, rfl⟩
      obtain ⟨b, off, rfl, hc⟩ := (H.out.below hb).2.2.resolve_left (by omega)
      obtain ⟨A, L, C, z0, z1, hbs⟩ := hc i z hz
      have hi' : (i : Int) < (n : Int) := by omega
      have hw1 : IntKind.i64.wrap ((i : Int) + 1) = (i : Int) + 1 := by rw [IntKind.wrap_i64]; omega
      have hLb := hbs.2.1
      have HI : Hid (zs[i]? = some z ∧ Below W.heap.size W w0 ∧ ZsAt (fun x => W.heap.size ≤ x) w0 (.slice oa i oc) (zs.take i) ∧ qb = w0.heap.size ∧ BsIn w0 A L z.1) := ⟨hz, hb, ho, hq, hbs⟩
      have HX : Hid (LtSt w0 qb z.2 z.1 0 (.slice none 0 0) (w0.alloc (.cells #[.slice none 0 0, .int .i64 z.2] 76))) := ⟨Blk.new' hq.symm rfl, by simpa using RowAt.nil _ _, (Below.refl _ _).alloc (by omega) _⟩
      clear hz hb ho hbs hc
      go_upto_region 6 with fail
      rw [← hq]
      generalize hVV : World.alloc _ _ = V at HX ⊢
      clear hVV hq
      go_wp2
      go_loopw [6] (fun x wr2 => ∃ k : Nat, x = .int .i64 k ∧ k ≤ L ∧ ∃ v, LtSt w0 qb z.2 z.1 k v wr2) (fun x wr2 => L - (intOf x).toNat)
      case atStart => exact ⟨0, rfl, Nat.zero_le _, _, HX.out⟩
      case round =>
        obtain ⟨k, rfl, hk, v, st⟩ := hrel
        have hbw : Below w0.heap.size w0 wr := by rw [← HI.out.2.2.2.1]; exact st.bel
        have y0 := (hbw.cell (old_block z0)).trans z0
        have hv9 := st.row.slice
        have hlk : (z.1.take k).length = k := by have := HI.out.2.2.2.2.1; simp; omega
        obtain ⟨va, vc, hv⟩ := hv9
        rw [hlk] at hv
        subst hv
        have x0 : wr.cell? ⟨qb, 0, none⟩ = some (.slice va k vc) := st.box.cell 0
        rcases Nat.lt_or_ge k L with hkl | hkl
        · obtain ⟨D, hD⟩ : ∃ D, z.1[k]? = some D := ⟨z.1[k]'(by have := HI.out.2.2.2.2.1; omega), by simp⟩
          obtain ⟨b2, off2, rfl, hc2⟩ := (HI.out.2.2.2.2.below hbw).2.2.resolve_left (by omega)
          obtain ⟨v2, y2, A2, L2, C2, rfl, k2, k3, k4, k5⟩ := hc2 k D hD
          have hk' : (k : Int) < (L : Int) := by omega
          have hw2 : IntKind.i64.wrap ((k : Int) + 1) = (k : Int) + 1 := by rw [IntKind.wrap_i64]; omega
          have HC : Hid (Calls Try.prog 76 #[.slice A2 L2 C2] wr.drew (LentE wr.drew D)) := rLent_of A2 L2 C2 D wr.drew (k2.below (Below.refl _ _).drew) k3 (by omega)
          have HA : Hid (∀ w3 h, BkAt (fun x => wr.heap.size ≤ x) w3 h D → Below wr.heap.size wr w3 → h.oneCell' = true → ∃ a' c' w5, (Builtin.append_ #[28, 28] 28 #[.slice va k vc, .slice (some ⟨w3.heap.size, 0, none⟩) 1 1]).run Try.prog (w3.alloc (.cells #[h] 39)) = .ok (.slice a' (k + 1) c') w5 ∧ w5.cell? ⟨qb, 0, none⟩ = some (.slice va k vc) ∧ w5.frozen? ⟨qb, 0, none⟩ = false ∧ LtSt w0 qb z.2 z.1 (k + 1) (.slice a' (k + 1) c') (w5.setCell ⟨qb, 0, none⟩ (.slice a' (k + 1) c'))) := fun w3 h e1 e2 e3 => st.app hD (by omega) e1 e2 e3
          have HB : Hid (Blk wr qb [.slice va k vc, .int .i64 z.2] 76) := st.box
          clear st hbw z0 z1 hc2 k2 k3 k4 k5
          go_wp2
          refine wp_region_noPanic ?_
          go_region_law (first
            | (go_simp; go_at_call 76; refine HC.out.mono ?_; rintro e w3 ⟨h3, rfl, bk3, b3⟩; obtain ⟨x3, y3, e3⟩ := own_slice bk3.1; subst e3; have b4 : Below wr.heap.size wr w3 := ⟨b3.os, b3.tape, b3.output, b3.size, b3.block⟩; obtain ⟨a9, c9, w9, e9, m9, f9, s9⟩ := HA.out w3 _ bk3 b4 rfl; have q3 : w3.cell? ⟨qb, 0, none⟩ = some (.slice va k vc) := (b4.cell HB.out.lt).trans x0; have q4 : ∀ o, (w3.alloc o).cell? ⟨qb, 0, none⟩ = some (.slice va k vc) := fun o => (((Below.refl w3.heap.size w3).alloc (Nat.le_refl _) o).cell (old_block q3)).trans q3)
            | (refine step_append_run rfl (.tmp 30) (.tmp 40) 28 28 rfl _ _ rfl rfl _ _ e9 ?_))
          all_goals
            have HF : Hid (LtSt w0 qb z.2 z.1 (k + 1) (.slice a9 (k + 1) c9) (w9.setCell ⟨qb, 0, none⟩ (.slice a9 (k + 1) c9))) := s9
            clear e9 m9 f9 s9 bk3 b3 b4 q3 q4
            refine NoPanic.normal ?_
            generalize World.setCell _ _ _ = V9 at HF ⊢
            go_wp2
            go_roundw
            case rel => exact ⟨k + 1, by simp, by omega, _, HF.out⟩
            case measure => simp [intOf]; omega
        · obtain rfl : k = L := by omega
          have hA := app_zone (u := .slice va k vc) (d := z.2) HI.out.2.2.1 hbw (by rw [← HI.out.2.2.2.1]; exact st.row) rfl (by rw [hl]; omega) (fun x hx => by have := HI.out.2.1.size; omega)
          rw [hl] at hA
          obtain ⟨a9, c9, w9, e9, z9, g9⟩ := hA
          have hfull : z.1.take k = z.1 := List.take_of_length_le (by have := HI.out.2.2.2.2.1; omega)
          rw [hfull] at z9
          have x1 : wr.cell? ⟨qb, 1, none⟩ = some (.int .i64 z.2) := st.box.cell 1
          have HF : Hid (ZsAt (fun x => W.heap.size ≤ x) w9 (.slice a9 (i + 1) c9) (zs.take (i + 1)) ∧ Below W.heap.size W w9) := by
            refine ⟨by rw [take_snoc HI.out.1]; exact z9, ?_⟩
            have hs := HI.out.2.1.size
            have hs2 := hbw.size
            refine ((HI.out.2.1.trans (hbw.mono hs)).alloc (by omega) _).grown g9 (by simp; omega) (fun k e => ?_)
            obtain ⟨vs9, q1, q2, _⟩ := HI.out.2.2.1
            exact q2 k e
          have HR : Hid ((Builtin.append_ #[47, 47] 47 #[.slice oa i oc, .slice (some ⟨wr.heap.size, 0, none⟩) 1 1]).run Try.prog (wr.alloc (.cells #[.slice va k vc, .int .i64 z.2] 76)) = .ok (.slice a9 (i + 1) c9) w9) := e9
          clear e9 z9 g9 hfull st hbw z0 z1
          go_wp2_with (at_builtin; refine wpList_append_run rfl (.tmp 43) (.tmp 45) 47 47 rfl _ _ rfl rfl _ _ HR.out ?_)
          go_roundw
          case rel => exact ⟨i + 1, by simp, by omega, HF.out.2, HF.out.1⟩
          case measure => simp [intOf]; omega
    · obtain rfl : i = n := by omega
      have HS : Hid (ZsAt (fun x => W.heap.size ≤ x) w0 (.slice oa i oc) zs ∧ Below W.heap.size W w0) := ⟨by rw [List.take_of_length_le (by have := H.out.1; omega)] at ho; exact ho, hb⟩
      clear hb ho
      go_wp2
      go_ret
      exact ⟨_, rfl, HS.out.1, HS.out.2⟩

section
variable {O : Nat → Prop} {W : World} {p : Nat} {s : Sh} {zs : List Zn}
theorem rZones_of (hd : Dv 108 O W p s zs) (hs : ShortZ zs) : Calls Try.prog 28 #[.pointer (some ⟨p, 0, none⟩)] W (ZonesE W zs) := by
  obtain ⟨g, cz, vs, hv⟩ := hd
  have c4 := hv.pcell.2.2.2.2
  have HC : Hid (Calls Try.prog 58 #[.slice (some ⟨g, 0, none⟩) zs.length cz] W (ZonesE W zs)) := rlent_of _ _ _ zs W (hv.all.zsin hs)
  clear hv
  go_enter Try.func28, Try.ntmps28
  go_wp2_with (go_at_call 58; refine HC.out.mono ?_; rintro e w3 ⟨v, rfl, hz, hb⟩)
  go_ret
  exact ⟨v, rfl, hz, hb⟩
end
end Go.Proofs.Yteokhkoaieibmaa

/- What one call of the document's own Open does. -/
namespace Go.Proofs.Yteokhkoaieibmaa
open Go.RowKit Go.Shelf
set_option linter.unusedVariables false
set_option maxRecDepth 4000

theorem zs_dev {T : TypeId} {O : Nat → Prop} {V : World} {s : Sh} {zs : List Zn} {a : Option Addr} {c : Nat} (hT : T ≠ 76 ∧ T ≠ 39 ∧ T ≠ 5) (h : ZsAt O V (.slice a zs.length c) zs) (h0 : 0 < zs.length) (hO : O V.heap.size) :
    Dv T O (V.alloc (.cells #[.int .i64 s.z, .int .i64 s.zb, .int .i64 s.b, .int .i64 s.r, .slice a zs.length c] T)) V.heap.size s zs := by
  have h' := h.under ((Below.refl V.heap.size V).alloc (Nat.le_refl _) (.cells #[.int .i64 s.z, .int .i64 s.zb, .int .i64 s.b, .int .i64 s.r, .slice a zs.length c] T))
  obtain ⟨vs, h1, h2, h3, h4, h5, h6⟩ := h'
  obtain ⟨g, rfl⟩ : ∃ g, a = some ⟨g, 0, none⟩ := by
    rcases h1.2 with ⟨hv, hz⟩ | ⟨g, cap, cur, hv, _⟩
    · omega
    · cases hv; exact ⟨g, rfl⟩
  exact ⟨g, c, vs, Blk.new' rfl rfl, h1, hO, h2 g rfl, h3, h4, h5, h6, hT⟩
set_option maxHeartbeats 4000000 in
theorem rOpen_of (s : Sh) (a : Option Addr) (n c : Nat) (zs : List Zn) (W : World) (hz : -9223372036854775808 ≤ s.z) (hl : ZsIn W a n zs) : Calls Try.prog 47 #[.agg (shL s).toArray, .slice a n c] W (Opened 108 W s zs) := by
  obtain ⟨q, hq⟩ : ∃ q, q = W.heap.size := ⟨_, rfl⟩
  have hb : Blk (W.alloc (.cells #[.int .i64 s.z, .int .i64 s.zb, .int .i64 s.b, .int .i64 s.r] 23)) q (shL s) 23 := Blk.new' hq.symm rfl
  have hbel : Below W.heap.size W (W.alloc (.cells #[.int .i64 s.z, .int .i64 s.zb, .int .i64 s.b, .int .i64 s.r] 23)) := (Below.refl _ _).alloc (Nat.le_refl _) _
  simp only [shL]
  go_enter Try.func47, Try.ntmps47
  go_upto_region 1 with fail
  rw [← hq]
  generalize hW1 : World.alloc _ _ = W1 at *
  have e0 : W1.cell? ⟨q, 0, none⟩ = some (.int .i64 s.z) := hb.cell 0
  have e1 : W1.cell? ⟨q, 1, none⟩ = some (.int .i64 s.zb) := hb.cell 1
  have e2 : W1.cell? ⟨q, 2, none⟩ = some (.int .i64 s.b) := hb.cell 2
  have e3 : W1.cell? ⟨q, 3, none⟩ = some (.int .i64 s.r) := hb.cell 3
  have hR := rRight_of s W1 hz
  simp only [shL] at hR
  have HA : Hid (Blk W1 q (shL s) 23 ∧ Below W.heap.size W W1 ∧ ZsIn W a n zs) := ⟨hb, hbel, hl⟩
  have hn := hl.2.1
  clear hb hbel hq hW1 hl
  by_cases hr : RightS s
  rotate_left
  · have hd : decide (RightS s) = false := by simp [hr]
    rw [hd] at hR
    have HR : Hid (Calls Try.prog 37 #[.agg #[.int .i64 s.z, .int .i64 s.zb, .int .i64 s.b, .int .i64 s.r]] W1 fun e w' => e = .returned (.bool false) ∧ Below W1.heap.size W1 w') := hR
    have HS : Hid (¬ RightS s) := hr
    clear hR hd hr
    go_wp2_with (go_at_call 37; refine HR.out.mono ?_; rintro e W2 ⟨rfl, b2⟩)
    go_ret
    exact ⟨HA.out.2.1.trans (b2.mono HA.out.2.1.size), .inl ⟨fun h => HS.out h.right, rfl⟩⟩
  have hd : decide (RightS s) = true := by simp [hr]
  rw [hd] at hR
  have HR : Hid (Calls Try.prog 37 #[.agg #[.int .i64 s.z, .int .i64 s.zb, .int .i64 s.b, .int .i64 s.r]] W1 fun e w' => e = .returned (.bool true) ∧ Below W1.heap.size W1 w') := hR
  have HS : Hid (RightS s) := hr
  clear hR hd hr
  go_upto_region 2 with (go_at_call 37; refine HR.out.mono ?_; rintro e W2 ⟨rfl, b2⟩)
  have g0 := (b2.cell (old_block e0)).trans e0
  have g1 := (b2.cell (old_block e1)).trans e1
  have g2 := (b2.cell (old_block e2)).trans e2
  have g3 := (b2.cell (old_block e3)).trans e3
  have H2 : Hid (Below W.heap.size W W2 ∧ ZsIn W2 a n zs) := ⟨HA.out.2.1.trans (b2.mono HA.out.2.1.size), HA.out.2.2.below (HA.out.2.1.trans (b2.mono HA.out.2.1.size))⟩
  clear e0 e1 e2 e3 b2 HR
  by_cases hlen : (n : Int) = s.z
  rotate_left
  · have hne : ((n : Int) != s.z) = true := by simp [hlen]
    have HN : Hid (Opened 108 W s zs (.returned (.pointer none)) W2) := ⟨H2.out.1, .inl ⟨fun h => hlen (by have := h.len; have := H2.out.2.1; omega), rfl⟩⟩
    clear hlen
    go_wp2
    go_ret
    exact HN.out
  have Hlen : Hid ((n : Int) = s.z) := hlen
  rw [← hlen] at g0
  clear hlen
  have bad : ∀ (d : Nat), ¬ Wf s zs → Opened 108 W s zs (.returned (.pointer none)) (W2.drewN d) := fun d h => ⟨H2.out.1.trans ((below_drewN W2 d).mono H2.out.1.size), .inl ⟨h, rfl⟩⟩
  have HBad : Hid (∀ (d : Nat), ¬ Wf s zs → Opened 108 W s zs (.returned (.pointer none)) (W2.drewN d)) := bad
  clear bad
  go_wp2
  go_loopw [6] (fun x wr => ∃ i d : Nat, x = .int .i64 i ∧ i ≤ n ∧ wr = W2.drewN d ∧ ∀ z ∈ zs.take i, GoodZ s z) (fun x wr => n - (intOf x).toNat)
  case atStart => exact ⟨0, 0, rfl, Nat.zero_le _, rfl, by simp⟩
  case round =>
    obtain ⟨i, d, rfl, hi, rfl, hgood⟩ := hrel
    rcases Nat.lt_or_ge i n with hlt | hge
    · obtain ⟨z, hz⟩ : ∃ z, zs[i]? = some z := ⟨zs[i]'(by have := H2.out.2.1; omega), by simp⟩
      obtain ⟨b, off, hab, hc⟩ := H2.out.2.2.2.resolve_left (by omega)
      subst hab
      obtain ⟨A, L, C, d0, d1, hbs⟩ := hc i z hz
      obtain ⟨dd, hdd⟩ : ∃ dd, dd = z.2 := ⟨_, rfl⟩
      rw [← hdd] at d1
      have hi' : (i : Int) < (n : Int) := by omega
      have hw1 : IntKind.i64.wrap ((i : Int) + 1) = (i : Int) + 1 := by rw [IntKind.wrap_i64]; omega
      have hLb := hbs.2.1
      have HI : Hid (zs[i]? = some z ∧ BsIn W2 A L z.1 ∧ z.1.length = L ∧ dd = z.2 ∧ (∀ z ∈ zs.take i, GoodZ s z)) := ⟨hz, hbs, hbs.1, hdd, hgood⟩
      have HNo : Hid (¬ GoodZ s z → ¬ Wf s zs) := wf_bad hz
      clear hz hc hbs hdd hgood
      by_cases h1 : s.zb < (L : Int)
      · have hN : Hid (¬ GoodZ s z) := fun h => by have := h.1; have := HI.out.2.2.1; omega
        have h1d : decide (s.zb < (L : Int)) = true := by simp; omega
        go_wp2
        go_ret
        exact HBad.out _ (HNo.out hN.out)
      have h1d : decide (s.zb < (L : Int)) = false := by simp; omega
      by_cases h2 : dd < 0
      · have hN : Hid (¬ GoodZ s z) := fun h => by have := h.2.1; have := HI.out.2.2.2.1; omega
        have h2d : decide (dd < 0) = true := by simp; omega
        go_wp2
        go_ret
        exact HBad.out _ (HNo.out hN.out)
      have h2d : decide (dd < 0) = false := by simp; omega
      by_cases h3 : (L : Int) < dd
      · have hN : Hid (¬ GoodZ s z) := fun h => by have := h.2.2.1; have := HI.out.2.2.2.1; have := HI.out.2.2.1; omega
        have h3d : decide ((L : Int) < dd) = true := by simp; omega
        go_wp2
        go_ret
        exact HBad.out _ (HNo.out hN.out)
      have h3d : decide ((L : Int) < dd) = false := by simp; omega
      have HQ : Hid ((L : Int) ≤ s.zb ∧ 0 ≤ dd ∧ dd ≤ (L : Int)) := ⟨by omega, by omega, by omega⟩
      clear h1 h2 h3
      go_wp2
      go_loopw [8] (fun x wr => ∃ t d : Nat, x = .int .i64 t ∧ t ≤ L ∧ wr = W2.drewN d ∧ ∀ D ∈ z.1.take t, (D.length : Int) = s.b) (fun x wr => L - (intOf x).toNat)
      case atStart => exact ⟨0, d, rfl, Nat.zero_le _, rfl, by simp⟩
      case round =>
        obtain ⟨t, d', rfl, ht, rfl, hall⟩ := hrel
        rcases Nat.lt_or_ge t L with hlt2 | hge2
        · have ht' : (t : Int) < L := by omega
          have hwt : IntKind.i64.wrap ((t : Int) + 1) = (t : Int) + 1 := by rw [IntKind.wrap_i64]; omega
          obtain ⟨b2, off2, hA, hc2⟩ := HI.out.2.1.2.2.resolve_left (by omega)
          subst hA
          obtain ⟨D, hD⟩ : ∃ D, z.1[t]? = some D := ⟨z.1[t]'(by have := HI.out.2.2.1; omega), by simp⟩
          obtain ⟨v, f1, A2, L2, C2, rfl, f2, f3, f4, f5⟩ := hc2 t D hD
          have HD : Hid (z.1[t]? = some D ∧ D.length = L2 ∧ (∀ D ∈ z.1.take t, (D.length : Int) = s.b)) := ⟨hD, f2.1, hall⟩
          clear hc2 hD f2 f3 f4 f5 hall
          by_cases h4 : (L2 : Int) = s.b
          · have h4d : ((L2 : Int) != s.b) = false := by simp [h4]
            have H4 : Hid ((L2 : Int) = s.b) := h4
            clear h4
            go_wp2
            go_quiet (fail)
            go_wp2
            go_roundw
            case rel =>
              refine ⟨t + 1, _, by go_num, by omega, rfl, fun y hy => ?_⟩
              rw [List.take_add_one, HD.out.1] at hy
              rcases List.mem_append.1 hy with h | h
              · exact HD.out.2.2 y h
              · simp at h; rw [h, HD.out.2.1]; exact H4.out
            case measure => simp [intOf]; omega
          · have h4d : ((L2 : Int) != s.b) = true := by simp [h4]
            have hN : Hid (¬ GoodZ s z) := fun h => h4 (by have := h.2.2.2 D (List.mem_of_getElem? HD.out.1); have := HD.out.2.1; omega)
            clear h4
            go_wp2
            go_quiet (fail)
            go_wp2
            go_ret
            rw [World.drewN_drewN]
            exact HBad.out _ (HNo.out hN.out)
        · obtain rfl : t = L := by omega
          have HY : Hid (GoodZ s z) := by
            rw [List.take_of_length_le (by have := HI.out.2.2.1; omega)] at hall
            have h1 := HI.out.2.2.1
            have h2 := HI.out.2.2.2.1
            have h3 := HQ.out
            exact ⟨by omega, by omega, by omega, hall⟩
          clear hall
          go_wp2
          go_roundw
          case rel =>
            refine ⟨i + 1, _, by go_num, by omega, rfl, fun y hy => ?_⟩
            rw [List.take_add_one, HI.out.1] at hy
            rcases List.mem_append.1 hy with h | h
            · exact HI.out.2.2.2.2 y h
            · simp at h; rw [h]; exact HY.out
          case measure => simp [intOf]; omega
    · obtain rfl : i = n := by omega
      have HF : Hid (Wf s zs) := by
        rw [List.take_of_length_le (by have := H2.out.2.1; omega)] at hgood
        exact ⟨HS.out, by have := H2.out.2.1; have := Hlen.out; omega, hgood⟩
      clear hgood
      obtain ⟨V, hV⟩ : ∃ V, V = W2.drewN d := ⟨_, rfl⟩
      have hbV : Below W2.heap.size W2 V := by rw [hV]; exact below_drewN W2 d
      have k0 := (hbV.cell (old_block g0)).trans g0
      have k1 := (hbV.cell (old_block g1)).trans g1
      have k2 := (hbV.cell (old_block g2)).trans g2
      have k3 := (hbV.cell (old_block g3)).trans g3
      have HV : Hid (Below W.heap.size W V ∧ ZsIn V a i zs) := ⟨H2.out.1.trans (hbV.mono H2.out.1.size), H2.out.2.below hbV⟩
      rw [← hV]
      clear hV hbV g0 g1 g2 g3
      obtain ⟨Z, hZ⟩ : ∃ Z : Int, Z = s.z := ⟨_, rfl⟩
      have HZl : Hid (zs.length = i ∧ 0 < zs.length) := ⟨HV.out.2.1, by have := HV.out.2.1; have := HS.out.1; have := Hlen.out; omega⟩
      have HW : Hid (∀ (X : World), Below V.heap.size V X → Calls Try.prog 58 #[.slice a i c] X (ZonesE X zs)) := fun X hX => rlent_of a i c zs X (HV.out.2.below hX)
      clear hZ Z
      go_wp2
      go_region_held3 (fun X => X.cell? ⟨q, 0, none⟩ = some (.int .i64 (i : Int)) ∧ X.cell? ⟨q, 1, none⟩ = some (.int .i64 s.zb) ∧ X.cell? ⟨q, 2, none⟩ = some (.int .i64 s.b) ∧ X.cell? ⟨q, 3, none⟩ = some (.int .i64 s.r)) (first | exact ⟨k0, k1, k2, k3⟩ | exact ⟨m0 _, m1 _, m2 _, m3 _⟩ | exact ⟨j0, j1, j2, j3⟩)
        ((go_at_call 58; refine (HW.out _ (by exact (Below.refl _ _).drew)).mono ?_; rintro e w3 ⟨v3, rfl, r3, b3⟩; obtain ⟨va, vc, hv3⟩ := r3.slice; rw [HZl.out.1] at hv3; subst hv3; have b3' : Below V.heap.size V w3 := ⟨b3.os, b3.tape, b3.output, b3.size, b3.block⟩; have j0 := (b3'.cell (old_block k0)).trans k0; have j1 := (b3'.cell (old_block k1)).trans k1; have j2 := (b3'.cell (old_block k2)).trans k2; have j3 := (b3'.cell (old_block k3)).trans k3; have bo : ∀ o, Below w3.heap.size w3 (w3.alloc o) := (fun o => (Below.refl _ _).alloc (Nat.le_refl _) o); have m0 := (fun o => ((bo o).cell (old_block j0)).trans j0); have m1 := (fun o => ((bo o).cell (old_block j1)).trans j1); have m2 := (fun o => ((bo o).cell (old_block j2)).trans j2); have m3 := (fun o => ((bo o).cell (old_block j3)).trans j3)))
      all_goals (
        have HE : Hid (Opened 108 W s zs (.returned (.pointer (some ⟨w3.heap.size, 0, none⟩))) (w3.alloc (.cells #[.int .i64 (i : Int), .int .i64 s.zb, .int .i64 s.b, .int .i64 s.r, .slice va i vc] 108))) := by
          have hb3 := HV.out.1.trans (b3'.mono HV.out.1.size)
          refine ⟨hb3.alloc hb3.size _, .inr ⟨HF.out, _, rfl, ?_⟩⟩
          have hz := Hlen.out
          have r4 : ZsAt (fun x => W.heap.size ≤ x) w3 (.slice va zs.length vc) zs := by rw [HZl.out.1]; exact r3.mono (fun x hx _ => Nat.le_trans HV.out.1.size hx)
          have := zs_dev (T := 108) (s := s) (by decide) r4 HZl.out.2 hb3.size
          rw [HZl.out.1, ← hz] at this
          exact this
        clear r3 b3 b3' j0 j1 j2 j3 bo m0 m1 m2 m3
        go_wp2
        go_ret
        exact HE.out)
end Go.Proofs.Yteokhkoaieibmaa

/- What one call of the document's Append does. -/
namespace Go.Proofs.Yteokhkoaieibmaa
open Go.RowKit Go.Shelf
set_option linter.unusedVariables false
set_option maxRecDepth 4000
/-- A row's headers, copied. -/
theorem run_rows {O : Nat → Prop} {W : World} {a : Option Addr} {k c : Nat} {bs : List (List Int)} (h : RowAt O W (.slice a k c) bs) :
    ∃ a' c' w', (Builtin.append_ #[28, 28] 28 #[.slice none 0 0, .slice a k c]).run Try.prog W = .ok (.slice a' k c') w' ∧ RowAt (fun x => O x ∨ W.heap.size ≤ x) w' (.slice a' k c') bs ∧ Below W.heap.size W w' ∧ (∀ r, (Value.slice a' k c').ownBlock = some r → W.heap.size ≤ r) := by
  obtain ⟨i0, hi, hz0, hz1, hz2⟩ := info_parts Try.zero_bytes
  obtain ⟨vs, r1, r2, r3, r4⟩ := id h
  have hk : k = bs.length := (own_cap r1).2
  have hvl : vs.length = k := by rw [r3.1, hk]
  rcases r1.2 with ⟨hv, hn⟩ | ⟨g, cap, cur, hv, hB, hh, hnc, hcm, hcs, htk⟩
  · cases hv
    obtain rfl : bs = [] := List.length_eq_zero_iff.1 hn
    exact ⟨none, 0, W, run_append_owned_none (P := Try.prog) W W.heap.size 28 28 39 i0 1 Try.underlying28 hi _ 0 [] (World.ownsRow_nil _ _ _ _), RowAt.nil _ _, Below.refl _ _, fun r e => by cases e⟩
  · cases hv
    obtain ⟨v', w', h2, h3, h4, _⟩ := run_append_own (P := Try.prog) W W.heap.size 28 28 39 i0 (.slice none 0 0) 1 24 Try.underlying28 hi hz0 hz1 hz2 rfl (by decide) _ 0 [] (World.ownsRow_nil _ _ _ _) ⟨g, 0, none⟩ bs.length c vs (by omega) (r1.cells rfl) (by
      intro u hu
      obtain ⟨j, hj⟩ := List.getElem?_of_mem hu
      have hjl := (List.getElem?_eq_some_iff.1 hj).1
      obtain ⟨D, hD⟩ : ∃ D, bs[j]? = some D := ⟨bs[j]'(by rw [← r3.1]; exact hjl), by simp⟩
      obtain ⟨x, y, rfl⟩ := own_slice (r3.2 j u D hj hD).1
      rfl) (by unfold maxLen; omega) (by omega) (Nat.le_refl _)
    have h3' : w'.ownsRow W.heap.size 39 1 v' bs.length vs := by simpa using h3
    obtain ⟨a', c', rfl⟩ := own_slice h3'
    have hb : Below W.heap.size W w' := (Below.refl _ _).grown h4 (Nat.le_refl _) (fun k e => by cases e)
    refine ⟨a', c', w', h2, ⟨vs, own_zero h3', fun r e => .inr (h3'.lt r e).1, ?_, r4⟩, hb, fun r e => (h3'.lt r e).1⟩
    exact (r3.mono (O' := fun x => O x ∨ W.heap.size ≤ x) (fun x hx _ => .inl hx)).out (below_out Non hb) (fun _ _ _ _ e => e)

section
variable {O : Nat → Prop} {W : World} {p : Nat} {s : Sh} {zs : List Zn}
structure RAppM (T : TypeId) (O : Nat → Prop) (W1 : World) (p : Nat) (s : Sh) (zs : List Zn) (g cz i : Nat) (z : Zn) (ua : Option Addr) (uc : Nat) (D : List Int) (a2 : Option Addr) (c2 : Nat) (a3 : Option Addr) (c3 : Nat) (w5 : World) : Prop where
  cc : w5.cell? ⟨g, i * 2, none⟩ = some (.slice ua z.1.length uc)
  fz : w5.frozen? ⟨g, i * 2, none⟩ = false
  pc : w5.cell? ⟨p, 4, none⟩ = some (.slice (some ⟨g, 0, none⟩) zs.length cz)
  dev : ∃ vs', DvV T (fun x => O x ∨ W1.heap.size ≤ x) (w5.setCell ⟨g, i * 2, none⟩ (.slice a3 (z.1.length + 1) c3)) p s (zs.set i (z.1 ++ [D], z.2)) g cz vs'
  out : Out O W1 (w5.setCell ⟨g, i * 2, none⟩ (.slice a3 (z.1.length + 1) c3))
  blk : ∀ {q : Nat} {L : List Value} {t : TypeId}, Blk W1 q L t → t ≠ 39 → t ≠ 76 → Blk (w5.setCell ⟨g, i * 2, none⟩ (.slice a3 (z.1.length + 1) c3)) q L t
theorem rapp_mem {T : TypeId} {g cz : Nat} {vs : List Value} {i : Nat} {z : Zn} {ua : Option Addr} {uc : Nat} {D : List Int} {a2 : Option Addr} {c2 : Nat} {w2 w3 : World} {h : Value} (hv : DvV T O W p s zs g cz vs) (hz : zs[i]? = some z) (hu : vs[i]? = some (.slice ua z.1.length uc)) (hl : z.1.length + 1 ≤ 100000)
    (h2 : RowAt (fun x => O x ∨ W.heap.size ≤ x) w2 (.slice a2 z.1.length c2) z.1) (b2 : Below W.heap.size W w2) (f2 : ∀ r, (Value.slice a2 z.1.length c2).ownBlock = some r → W.heap.size ≤ r)
    (h3 : BkAt (fun x => w2.heap.size ≤ x) w3 h D) (b3 : Below w2.heap.size w2 w3) (ho : h.oneCell' = true) :
    ∃ a3 c3 w5, (Builtin.append_ #[28, 28] 28 #[.slice a2 z.1.length c2, .slice (some ⟨w3.heap.size, 0, none⟩) 1 1]).run Try.prog (w3.alloc (.cells #[h] 39)) = .ok (.slice a3 (z.1.length + 1) c3) w5 ∧ RAppM T O W p s zs g cz i z ua uc D a2 c2 a3 c3 w5 := by
  have hs2 := b2.size
  have hs3 := b3.size
  have row3 := h2.out (below_out Non b3) (fun _ _ e => e) (fun _ _ _ _ e => e)
  have bk3 := h3.mono (O' := fun x => O x ∨ W.heap.size ≤ x) (fun x hx _ => .inr (by omega))
  obtain ⟨a3, c3, w5, r5, row5, g5, f5⟩ := app_row row3 bk3 ho hl (fun k hk => .inr (by omega))
  obtain ⟨uv, u1, u2, _⟩ := row3
  have hb5 : Below W.heap.size W w5 := by
    refine (((b2.trans (b3.mono hs2))).alloc (by omega) _).grown g5 (by simp; omega) (fun k e => f2 k e)
  have hfr : ∀ r, (Value.slice a3 (z.1.length + 1) c3).ownBlock = some r → W.heap.size ≤ r := by
    intro r e
    rcases f5 with f5 | f5
    · rw [f5] at e; exact f2 r e
    · have := f5 r e; omega
  obtain ⟨k1, k2, k3, hd5⟩ := hv.upd (O1 := fun x => O x ∨ W.heap.size ≤ x) hz hu (below_out _ hb5) (fun x hx => .inl hx) row5 (.inr hfr)
  have hv5 := hv.under hb5
  obtain ⟨Lg, hLg⟩ := own_blk hv5.hg
  refine ⟨a3, c3, w5, r5, ⟨k1, k3 _, hv5.pcell.2.2.2.2, ⟨_, hd5⟩, (below_out O hb5).setCell (p := ⟨g, i * 2, none⟩) (.inl hv.og) _, ?_⟩⟩
  intro q L t hq ht hz'
  have q5 := hq.below hb5 hq.lt
  refine q5.set_other ?_ _
  intro e
  have : q = g := e
  subst this
  exact blk_ne q5 hLg hz' rfl

set_option maxHeartbeats 4000000 in
theorem rAppend_of (zn : Int) (a : Option Addr) (n c : Nat) (D : List Int) (hd : Dv 108 O W p s zs) (hw : Wf s zs) (hb : BIn W a n D) (hnil : a = none → n = 0 ∧ c = 0) (hn : n ≤ 100000) :
    Calls Try.prog 55 #[.pointer (some ⟨p, 0, none⟩), .int .i64 zn, .slice a n c] W (Apped 108 .i64 O W p s zs zn D) := by
  obtain ⟨q, hq⟩ : ∃ q, q = W.heap.size := ⟨_, rfl⟩
  obtain ⟨ab, abel⟩ := addr_blk hq
  have hd1 : Dv 108 O (W.alloc (.cells #[.int .i64 0, .int .i64 0] 67)) p s zs := by
    obtain ⟨g, c, vs, hv⟩ := hd; exact ⟨g, c, vs, hv.under (by rw [← hq]; exact abel)⟩
  have hb1 : BIn (W.alloc (.cells #[.int .i64 0, .int .i64 0] 67)) a n D := hb.alloc _
  have hl := hb.1
  go_enter Try.func55, Try.ntmps55
  go_upto_region 1 with fail
  rw [← hq]
  generalize hW1 : World.alloc _ _ = W1 at *
  clear hW1
  have e0 : W1.cell? ⟨q, 0, none⟩ = some (.int .i64 0) := ab.cell 0
  have e1 : W1.cell? ⟨q, 1, none⟩ = some (.int .i64 0) := ab.cell 1
  have f0 := ab.frozen 0
  have f1 := ab.frozen 1
  have HA : Hid (Blk W1 q [.int .i64 0, .int .i64 0] 67 ∧ Below q W W1 ∧ q = W.heap.size) := ⟨ab, abel, hq⟩
  have HD : Hid (Dv 108 O W p s zs ∧ Wf s zs) := ⟨hd, hw⟩
  have HI : Hid (BIn W1 a n D ∧ (a = none → n = 0 ∧ c = 0) ∧ n ≤ 100000 ∧ D.length = n) := ⟨hb1, hnil, hn, hl⟩
  clear ab abel hq hd hw hb hnil hn hb1 hl
  have fin : Hid (∀ (x y : Int), Blk ((W1.setCell ⟨q, 0, none⟩ (.int .i64 x)).setCell ⟨q, 1, none⟩ (.int .i64 y)) q [.int .i64 x, .int .i64 y] 67 ∧ Below W.heap.size W ((W1.setCell ⟨q, 0, none⟩ (.int .i64 x)).setCell ⟨q, 1, none⟩ (.int .i64 y))) := by
    intro x y
    refine ⟨(HA.out.1.set 0 _).set 1 _, ?_⟩
    rw [← HA.out.2.2]
    exact (HA.out.2.1.setCell (p := ⟨q, 0, none⟩) (Nat.le_refl _) _).setCell (p := ⟨q, 1, none⟩) (Nat.le_refl _) _
  obtain ⟨g, cz, vs, hv⟩ := hd1
  obtain ⟨p0, p1, p2, p3, c4⟩ := hv.pcell
  rcases zone_cases zs zn with ⟨i, z, rfl, hz, hi, hbb⟩ | ⟨hno, hbb⟩
  · obtain ⟨ua, uc, hu, hr, z0, z1⟩ := hv.at hz
    have hi' : (i : Int) < zs.length := by omega
    clear hbb
    by_cases hlen : (n : Int) = s.b
    · have hok : Hid (appOk s zs i D) := by
        show appOk s zs i D
        exact ⟨by omega, by omega, by rw [HI.out.2.2.2]; exact hlen⟩
      have b1 : ((n : Int) != s.b) = false := by simp [hlen]
      by_cases hfull : s.zb ≤ (z.1.length : Int)
      · have hff : Hid (appFull s zs i) := by
          show appFull s zs i
          unfold appFull; rw [atZ_in hz]; exact hfull
        clear hv hr hu hz
        go_wp2
        refine bodyPost_ret (results_cell_two (p := 6) (u := 7) (ty := 67) rfl _ _ q _ _ _ rfl (fin.out 0 0).1 Try.underlying67 rfl Try.info_addr _ rfl) rfl ?_
        exact apped_full (q := q) hok.out hff.out HD.out.1 (fin.out 0 0).2
      · have hff : Hid (¬ appFull s zs i) := by
          show ¬ appFull s zs i
          unfold appFull; rw [atZ_in hz]; exact hfull
        have hr4 := HD.out.2.right.2.2.2.1
        obtain ⟨a2, c2, w2, run2, row2, b2, fr2⟩ := run_rows hr
        have d4 := (b2.cell (old_block c4)).trans c4
        have dz := (b2.cell (old_block z0)).trans z0
        have HL : Hid (∃ w, Calls Try.prog 76 #[.slice a n c] w2 (LentE w2 D) ∧ w = w2) := ⟨w2, rLent_of a n c D w2 (HI.out.1.below b2) HI.out.2.1 (by have := HI.out.2.2.1; omega), rfl⟩
        have HR : Hid ((Builtin.append_ #[28, 28] 28 #[.slice none 0 0, .slice ua z.1.length uc]).run Try.prog W1 = .ok (.slice a2 z.1.length c2) w2 ∧ Below W1.heap.size W1 w2) := ⟨run2, b2⟩
        have HM : Hid (∀ w3 h, BkAt (fun x => w2.heap.size ≤ x) w3 h D → Below w2.heap.size w2 w3 → h.oneCell' = true → ∃ a3 c3 w5, (Builtin.append_ #[28, 28] 28 #[.slice a2 z.1.length c2, .slice (some ⟨w3.heap.size, 0, none⟩) 1 1]).run Try.prog (w3.alloc (.cells #[h] 39)) = .ok (.slice a3 (z.1.length + 1) c3) w5 ∧ RAppM 108 O W1 p s zs g cz i z ua uc D a2 c2 a3 c3 w5) := fun w3 h k1 k2 k3 => rapp_mem hv hz hu (by omega) row2 b2 fr2 k1 k2 k3
        have HZ : Hid (zs[i]? = some z) := hz
        clear hv hr hu hz hr4 run2 row2 b2 fr2
        go_upto_region 9 with (first
          | (at_builtin; refine wpList_append_run rfl (.tmp 59) (.tmp 62) 28 28 rfl _ _ rfl rfl _ _ M5.1 ?_)
          | (at_builtin; refine wpList_append_run rfl (.tmp 49) (.tmp 57) 28 28 rfl _ _ rfl rfl _ _ HR.out.1 ?_)
          | (go_at_call 76; obtain ⟨_, hl9, _⟩ := HL.out; refine hl9.mono ?_; rintro e w3 ⟨h3, rfl, bk3, bl3⟩; obtain ⟨x3, y3, e3⟩ := own_slice bk3.1; subst e3; obtain ⟨a3, c3, w5, M5⟩ := HM.out w3 _ bk3 bl3 rfl))
        have m0 := M5.2.cc
        have m1 := M5.2.fz
        have m2 := M5.2.pc
        have aq := M5.2.blk HA.out.1 (by decide) (by decide)
        have HV : Hid ((∃ vs', DvV 108 (fun x => O x ∨ W1.heap.size ≤ x) (w5.setCell ⟨g, i * 2, none⟩ (.slice a3 (z.1.length + 1) c3)) p s (zs.set i (z.1 ++ [D], z.2)) g cz vs') ∧ Out O W1 (w5.setCell ⟨g, i * 2, none⟩ (.slice a3 (z.1.length + 1) c3)) ∧ Blk (w5.setCell ⟨g, i * 2, none⟩ (.slice a3 (z.1.length + 1) c3)) q [.int .i64 0, .int .i64 0] 67 ∧ zs[i]? = some z) := ⟨M5.2.dev, M5.2.out, aq, HZ.out⟩
        clear M5 bk3 bl3 e0 e1 f0 f1 fin d4 dz z0 z1 p0 p1 p2 p3 c4
        go_upto_region 10 with fail
        generalize World.setCell w5 _ _ = V at HV aq ⊢
        have e0 : V.cell? ⟨q, 0, none⟩ = some (.int .i64 0) := aq.cell 0
        have e1 : V.cell? ⟨q, 1, none⟩ = some (.int .i64 0) := aq.cell 1
        have f0 := aq.frozen 0
        have f1 := aq.frozen 1
        clear aq m0 m1 m2
        go_wp2
        refine bodyPost_ret (results_cell_two (p := 6) (u := 7) (ty := 67) rfl _ _ q _ _ _ rfl ((HV.out.2.2.1.set 0 _).set 1 _) Try.underlying67 rfl Try.info_addr _ rfl) rfl ?_
        exact apped_ok hok.out hff.out HV.out.2.2.2 HA.out.2.1 HA.out.2.2 HV.out.1 HV.out.2.1 HV.out.2.2.1
    · have hok : Hid (¬ appOk s zs i D) := by
        show ¬ appOk s zs i D
        rintro ⟨_, _, h⟩
        rw [HI.out.2.2.2] at h
        exact hlen h
      have b1 : ((n : Int) != s.b) = true := by simp [hlen]
      clear hv hr hu hz
      go_wp2
      refine bodyPost_ret (results_cell_two (p := 6) (u := 7) (ty := 67) rfl _ _ q _ _ _ rfl (fin.out 0 0).1 Try.underlying67 rfl Try.info_addr _ rfl) rfl ?_
      exact apped_no (q := q) hok.out HD.out.1 (fin.out 0 0).2
  · have hok : Hid (¬ appOk s zs zn D) := by
      show ¬ appOk s zs zn D
      rintro ⟨h1, h2, _⟩
      exact hno ⟨h1, h2⟩
    rcases out_cases hno with h | ⟨h1, h2⟩
    · clear hbb hno hv
      go_wp2
      refine bodyPost_ret (results_cell_two (p := 6) (u := 7) (ty := 67) rfl _ _ q _ _ _ rfl (fin.out 0 0).1 Try.underlying67 rfl Try.info_addr _ rfl) rfl ?_
      exact apped_no (q := q) hok.out HD.out.1 (fin.out 0 0).2
    · clear hbb hno hv
      go_wp2
      refine bodyPost_ret (results_cell_two (p := 6) (u := 7) (ty := 67) rfl _ _ q _ _ _ rfl (fin.out 0 0).1 Try.underlying67 rfl Try.info_addr _ rfl) rfl ?_
      exact apped_no (q := q) hok.out HD.out.1 (fin.out 0 0).2
end
end Go.Proofs.Yteokhkoaieibmaa
