/- Texts of this seat, one behind the other: ZRZn. -/
import Derived.Test.YtfcbcpjcmihooaaGreatP20
import Derived.Test.YtfcbcpjcmihooaaGreatQ3
/- What one call of the document's lent and Zones does. -/
namespace Go.Proofs.YtfcbcpjcmihooaaGreat
open Go.RowKit Go.Shelf
set_option linter.unusedVariables false
set_option maxRecDepth 4000

/-- A zone that is being copied: in a box of its own. -/
structure LtSt (w0 : World) (qb : Nat) (d : Int) (bs : List (List Int)) (k : Nat) (v : Value) (W : World) : Prop where
  box : Blk W qb [v, .int .i64 d] 107
  row : RowAt (fun x => qb ≤ x) W v (bs.take k)
  bel : Below qb w0 W
theorem LtSt.app {w0 W w3 : World} {qb : Nat} {d : Int} {bs : List (List Int)} {k : Nat} {v h : Value} {D : List Int} (st : LtSt w0 qb d bs k v W) (hD : bs[k]? = some D) (hk : k + 1 ≤ 100000) (hb : BkAt (fun x => W.heap.size ≤ x) w3 h D) (hbl : Below W.heap.size W w3) (ho : h.oneCell' = true) :
    ∃ a' c' w5, (Builtin.append_ #[78, 78] 78 #[v, .slice (some ⟨w3.heap.size, 0, none⟩) 1 1]).run Tryz.prog (w3.alloc (.cells #[h] 36)) = .ok (.slice a' (k + 1) c') w5 ∧ w5.cell? ⟨qb, 0, none⟩ = some v ∧ w5.frozen? ⟨qb, 0, none⟩ = false ∧ LtSt w0 qb d bs (k + 1) (.slice a' (k + 1) c') (w5.setCell ⟨qb, 0, none⟩ (.slice a' (k + 1) c')) := by
  have hlt := st.box.lt
  have hsz := hbl.size
  have hl : (bs.take k).length = k := by have := (List.getElem?_eq_some_iff.1 hD).1; simp; omega
  have row3 := st.row.out (below_out Non hbl) (fun _ _ e => e) (fun _ _ _ _ e => e)
  have bk3 := hb.mono (O' := fun x => qb ≤ x) (fun x hx _ => by omega)
  have := app_row row3 bk3 ho (by rw [hl]; exact hk) (fun x hx => by omega)
  rw [hl] at this
  obtain ⟨a', c', w5, r5, row5, g5, f5⟩ := this
  obtain ⟨uv, u1, u2, _⟩ := id row3
  have box3 := (below_out Non hbl).blk st.box id
  have box5 : Blk w5 qb [v, .int .i64 d] 107 := (box3.alloc _).grown (by decide) (u1.alloc _) g5
  refine ⟨a', c', w5, r5, box5.cell 0, box5.frozen 0, ⟨box5.set 0 _, ?_, ?_⟩⟩
  · rw [take_snoc hD]
    exact out_row box5 (by decide) (by decide) 0 _ row5
  · refine (((st.bel.trans (hbl.mono (by omega))).alloc (by omega) _).grown g5 (by simp; omega) (fun j e => u2 j e)).setCell (p := ⟨qb, 0, none⟩) (Nat.le_refl _) _

set_option maxHeartbeats 4000000 in
theorem rlent_of (a : Option Addr) (n c : Nat) (zs : List Zn) (W : World) (hx : ZsIn W a n zs) : Calls Tryz.prog 116 #[.slice a n c] W (ZonesE W zs) := by
  have hn : n ≤ 1000 := hx.2.1
  have H : Hid (ZsIn W a n zs) := hx
  clear hx
  go_enter Tryz.func116, Tryz.ntmps116
  go_wp2
  go_loopw [3, 4] (fun o x wr => ∃ i : Nat, x = .int .i64 i ∧ i ≤ n ∧ Below W.heap.size W wr ∧ ZsAt (fun x => W.heap.size ≤ x) wr o (zs.take i)) (fun o x wr => n - (intOf x).toNat)
  case atStart => exact ⟨0, rfl, Nat.zero_le _, Below.refl _ _, by simpa using ZsAt.nil _ _⟩
  case round =>
    obtain ⟨i, rfl, hi, hb, ho⟩ := hrel
    obtain ⟨w0, hw0⟩ : ∃ w0, w0 = wr := ⟨_, rfl⟩
    subst hw0
    have hl : (zs.take i).length = i := by have := H.out.1; simp; omega
    obtain ⟨oa, oc, hoe⟩ := ho.slice
    rw [hl] at hoe
    subst hoe
    rcases Nat.lt_or_ge i n with hlt | hge
    · obtain ⟨z, hz⟩ : ∃ z, zs[i]? = some z := ⟨zs[i]'(by have := H.out.1; omega), by simp⟩
      obtain ⟨qb, hq⟩ : ∃ q, q = w0.heap.size := ⟨_, rfl⟩
      obtain ⟨b, off, rfl, hc⟩ := (H.out.below hb).2.2.resolve_left (by omega)
      obtain ⟨A, L, C, z0, z1, hbs⟩ := hc i z hz
      have hi' : (i : Int) < (n : Int) := by omega
      have hw1 : IntKind.i64.wrap ((i : Int) + 1) = (i : Int) + 1 := by rw [IntKind.wrap_i64]; omega
      have hLb := hbs.2.1
      have HI : Hid (zs[i]? = some z ∧ Below W.heap.size W w0 ∧ ZsAt (fun x => W.heap.size ≤ x) w0 (.slice oa i oc) (zs.take i) ∧ qb = w0.heap.size ∧ BsIn w0 A L z.1) := ⟨hz, hb, ho, hq, hbs⟩
      have HX : Hid (LtSt w0 qb z.2 z.1 0 (.slice none 0 0) (w0.alloc (.cells #[.slice none 0 0, .int .i64 z.2] 107))) := ⟨Blk.new' hq.symm rfl, by simpa using RowAt.nil _ _, (Below.refl _ _).alloc (by omega) _⟩
      clear hz hb ho hbs hc
      go_upto_region 6 with fail
      rw [← hq]
      generalize hVV : World.alloc _ _ = V at HX ⊢
      clear hVV hq
      go_wp2
      go_loopw [6] (fun x wr2 => ∃ k : Nat, x = .int .i64 k ∧ k ≤ L ∧ ∃ v, LtSt w0 qb z.2 z.1 k v wr2) (fun x wr2 => L - (intOf x).toNat)
      case atStart => exact ⟨0, rfl, Nat.zero_le _, _, HX.out⟩
      case round =>
        obtain ⟨k, rfl, hk, v, st⟩ := hrel
        have hbw : Below w0.heap.size w0 wr := by rw [← HI.out.2.2.2.1]; exact st.bel
        have y0 := (hbw.cell (old_block z0)).trans z0
        have hv9 := st.row.slice
        have hlk : (z.1.take k).length = k := by have := HI.out.2.2.2.2.1; simp; omega
        obtain ⟨va, vc, hv⟩ := hv9
        rw [hlk] at hv
        subst hv
        have x0 : wr.cell? ⟨qb, 0, none⟩ = some (.slice va k vc) := st.box.cell 0
        rcases Nat.lt_or_ge k L with hkl | hkl
        · obtain ⟨D, hD⟩ : ∃ D, z.1[k]? = some D := ⟨z.1[k]'(by have := HI.out.2.2.2.2.1; omega), by simp⟩
          obtain ⟨b2, off2, rfl, hc2⟩ := (HI.out.2.2.2.2.below hbw).2.2.resolve_left (by omega)
          obtain ⟨v2, y2, A2, L2, C2, rfl, k2, k3, k4, k5⟩ := hc2 k D hD
          have hk' : (k : Int) < (L : Int) := by omega
          have hw2 : IntKind.i64.wrap ((k : Int) + 1) = (k : Int) + 1 := by rw [IntKind.wrap_i64]; omega
          have HC : Hid (Calls Tryz.prog 114 #[.slice A2 L2 C2] wr.drew (LentE wr.drew D)) := rLent_of A2 L2 C2 D wr.drew (k2.below (Below.refl _ _).drew) k3 (by omega)
          have HA : Hid (∀ w3 h, BkAt (fun x => wr.heap.size ≤ x) w3 h D → Below wr.heap.size wr w3 → h.oneCell' = true → ∃ a' c' w5, (Builtin.append_ #[78, 78] 78 #[.slice va k vc, .slice (some ⟨w3.heap.size, 0, none⟩) 1 1]).run Tryz.prog (w3.alloc (.cells #[h] 36)) = .ok (.slice a' (k + 1) c') w5 ∧ w5.cell? ⟨qb, 0, none⟩ = some (.slice va k vc) ∧ w5.frozen? ⟨qb, 0, none⟩ = false ∧ LtSt w0 qb z.2 z.1 (k + 1) (.slice a' (k + 1) c') (w5.setCell ⟨qb, 0, none⟩ (.slice a' (k + 1) c'))) := fun w3 h e1 e2 e3 => st.app hD (by omega) e1 e2 e3
          have HB : Hid (Blk wr qb [.slice va k vc, .int .i64 z.2] 107) := st.box
          clear st hbw z0 z1 hc2 k2 k3 k4 k5
          go_wp2
          refine wp_region_noPanic ?_
          go_region_law (first
            | (go_simp; go_at_call 114; refine HC.out.mono ?_; rintro e w3 ⟨h3, rfl, bk3, b3⟩; obtain ⟨x3, y3, e3⟩ := own_slice bk3.1; subst e3; have b4 : Below wr.heap.size wr w3 := ⟨b3.os, b3.tape, b3.output, b3.size, b3.block⟩; obtain ⟨a9, c9, w9, e9, m9, f9, s9⟩ := HA.out w3 _ bk3 b4 rfl; have q3 : w3.cell? ⟨qb, 0, none⟩ = some (.slice va k vc) := (b4.cell HB.out.lt).trans x0; have q4 : ∀ o, (w3.alloc o).cell? ⟨qb, 0, none⟩ = some (.slice va k vc) := fun o => (((Below.refl w3.heap.size w3).alloc (Nat.le_refl _) o).cell (old_block q3)).trans q3)
            | (refine step_append_run rfl (.tmp 30) (.tmp 40) 78 78 rfl _ _ rfl rfl _ _ e9 ?_))
          all_goals
            have HF : Hid (LtSt w0 qb z.2 z.1 (k + 1) (.slice a9 (k + 1) c9) (w9.setCell ⟨qb, 0, none⟩ (.slice a9 (k + 1) c9))) := s9
            clear e9 m9 f9 s9 bk3 b3 b4 q3 q4
            refine NoPanic.normal ?_
            generalize World.setCell _ _ _ = V9 at HF ⊢
            go_wp2
            go_roundw
            case rel => exact ⟨k + 1, by simp, by omega, _, HF.out⟩
            case measure => simp [intOf]; omega
        · obtain rfl : k = L := by omega
          have hA := app_zone (u := .slice va k vc) (d := z.2) HI.out.2.2.1 hbw (by rw [← HI.out.2.2.2.1]; exact st.row) rfl (by rw [hl]; omega) (fun x hx => by have := HI.out.2.1.size; omega)
          rw [hl] at hA
          obtain ⟨a9, c9, w9, e9, z9, g9⟩ := hA
          have hfull : z.1.take k = z.1 := List.take_of_length_le (by have := HI.out.2.2.2.2.1; omega)
          rw [hfull] at z9
          have x1 : wr.cell? ⟨qb, 1, none⟩ = some (.int .i64 z.2) := st.box.cell 1
          have HF : Hid (ZsAt (fun x => W.heap.size ≤ x) w9 (.slice a9 (i + 1) c9) (zs.take (i + 1)) ∧ Below W.heap.size W w9) := by
            refine ⟨by rw [take_snoc HI.out.1]; exact z9, ?_⟩
            have hs := HI.out.2.1.size
            have hs2 := hbw.size
            refine ((HI.out.2.1.trans (hbw.mono hs)).alloc (by omega) _).grown g9 (by simp; omega) (fun k e => ?_)
            obtain ⟨vs9, q1, q2, _⟩ := HI.out.2.2.1
            exact q2 k e
          have HR : Hid ((Builtin.append_ #[45, 45] 45 #[.slice oa i oc, .slice (some ⟨wr.heap.size, 0, none⟩) 1 1]).run Tryz.prog (wr.alloc (.cells #[.slice va k vc, .int .i64 z.2] 107)) = .ok (.slice a9 (i + 1) c9) w9) := e9
          clear e9 z9 g9 hfull st hbw z0 z1
          go_wp2_with (at_builtin; refine wpList_append_run rfl (.tmp 43) (.tmp 45) 45 45 rfl _ _ rfl rfl _ _ HR.out ?_)
          go_roundw
          case rel => exact ⟨i + 1, by simp, by omega, HF.out.2, HF.out.1⟩
          case measure => simp [intOf]; omega
    · obtain rfl : i = n := by omega
      have HS : Hid (ZsAt (fun x => W.heap.size ≤ x) w0 (.slice oa i oc) zs ∧ Below W.heap.size W w0) := ⟨by rw [List.take_of_length_le (by have := H.out.1; omega)] at ho; exact ho, hb⟩
      clear hb ho
      go_wp2
      go_ret
      exact ⟨_, rfl, HS.out.1, HS.out.2⟩

section
variable {O : Nat → Prop} {W : World} {p : Nat} {s : Sh} {zs : List Zn}
theorem rZones_of (hd : Dv 142 O W p s zs) (hs : ShortZ zs) : Calls Tryz.prog 112 #[.pointer (some ⟨p, 0, none⟩)] W (ZonesE W zs) := by
  obtain ⟨g, cz, vs, hv⟩ := hd
  have c4 := hv.pcell.2.2.2.2
  have HC : Hid (Calls Tryz.prog 116 #[.slice (some ⟨g, 0, none⟩) zs.length cz] W (ZonesE W zs)) := rlent_of _ _ _ zs W (hv.all.zsin hs)
  clear hv
  go_enter Tryz.func112, Tryz.ntmps112
  go_wp2_with (go_at_call 116; refine HC.out.mono ?_; rintro e w3 ⟨v, rfl, hz, hb⟩)
  go_ret
  exact ⟨v, rfl, hz, hb⟩
end
end Go.Proofs.YtfcbcpjcmihooaaGreat
