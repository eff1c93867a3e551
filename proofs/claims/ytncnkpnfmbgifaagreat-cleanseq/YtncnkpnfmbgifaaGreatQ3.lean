/- Texts of this seat, one behind the other: ZRefOps, ZRApp, ZRRd. -/
import Derived.Test.YtncnkpnfmbgifaaGreatP12
import Derived.Test.YtncnkpnfmbgifaaGreatP13
/- What one call of the document's At, Reset, Flush does. -/
namespace Go.Proofs.YtncnkpnfmbgifaaGreat
open Go.RowKit Go.Shelf
set_option linter.unusedVariables false
set_option maxRecDepth 4000
section
variable {O : Nat → Prop} {W : World} {p : Nat} {s : Sh} {zs : List Zn}
theorem out_cases {zs : List Zn} {zn : Int} (h : ¬ (0 ≤ zn ∧ zn ≤ (zs.length : Int) - 1)) : zn < 0 ∨ (¬ zn < 0 ∧ (zs.length : Int) ≤ zn) := by omega
theorem rAt_of (zn : Int) (hd : Dv 88 O W p s zs) :
  Calls Tryz.prog 92 #[.pointer (some ⟨p, 0, none⟩), .int .i64 zn] W fun e w' => e = .returned (.tuple #[.int .i64 ((atZ zs zn).1.length : Nat), .int .i64 (atZ zs zn).2]) ∧ Below W.heap.size W w' := by
 obtain ⟨g, c, vs, hv⟩ := hd
 have c4 := hv.pcell.2.2.2.2
 rcases zone_cases zs zn with ⟨i, z, rfl, hz, hi, hb⟩ | ⟨hn, hb⟩
 ·rw [atZ_in hz]
  obtain ⟨a, cc, hu, hr, z0, z1⟩ := hv.at hz
  have hi' : (i : Int) < zs.length := by omega
  clear hv hr hz hu hb
  go_enter Tryz.func92, Tryz.ntmps92
  go_wp2
  go_quiet (fail)
  go_wp2
  go_ret2
  exact ⟨rfl, below_drewN _ _⟩
 ·rw [atZ_out hn]
  rcases out_cases hn with h | ⟨h1, h2⟩
  ·clear hb hn hv
   go_enter Tryz.func92, Tryz.ntmps92
   go_wp2
   go_ret2
   exact ⟨rfl, Below.refl _ _⟩
  ·clear hb hn hv
   go_enter Tryz.func92, Tryz.ntmps92
   go_wp2
   go_ret2
   exact ⟨rfl, Below.refl _ _⟩
theorem rReset_of (zn : Int) (hd : Dv 88 O W p s zs) :
  Calls Tryz.prog 99 #[.pointer (some ⟨p, 0, none⟩), .int .i64 zn] W fun e w' => e = .returned (.int .i64 (resetE zs zn)) ∧ Step 88 O W p s (resetZ zs zn) w' := by
 obtain ⟨g, c, vs, hv⟩ := hd
 have c4 := hv.pcell.2.2.2.2
 rcases zone_cases zs zn with ⟨i, z, rfl, hz, hi, hb⟩ | ⟨hn, hb⟩
 ·rw [resetZ_in, resetE, if_pos (by omega)]
  obtain ⟨a, cc, hu, hr, z0, z1⟩ := hv.at hz
  have f0 := hv.free (i * 2)
  have f1 := hv.free (i * 2 + 1)
  have HR : Hid (Step 88 O W p s (zs.set i ([], 0)) ((W.setCell ⟨g, i * 2, none⟩ (.slice none 0 0)).setCell ⟨g, i * 2 + 1, none⟩ (.int .i64 0))) := hv.reset hz
  have hi' : (i : Int) < zs.length := by omega
  clear hv hr hz hu hb
  go_enter Tryz.func99, Tryz.ntmps99
  go_wp2
  go_ret
  exact ⟨rfl, HR.out⟩
 ·rw [resetZ_out hn, resetE, if_neg hn]
  have HD : Hid (Step 88 O W p s zs W) := step_of ⟨g, c, vs, hv⟩ (Out.refl _ _)
  rcases out_cases hn with h | ⟨h1, h2⟩
  ·clear hb hn hv
   go_enter Tryz.func99, Tryz.ntmps99
   go_wp2
   go_ret
   exact ⟨rfl, HD.out⟩
  ·clear hb hn hv
   go_enter Tryz.func99, Tryz.ntmps99
   go_wp2
   go_ret
   exact ⟨rfl, HD.out⟩

set_option maxHeartbeats 2000000 in
theorem rFlush_of (hd : Dv 88 O W p s zs) :
  Calls Tryz.prog 96 #[.pointer (some ⟨p, 0, none⟩)] W fun e w' => (∃ v, e = .returned v) ∧ Step 88 O W p s (flushZ zs) w' := by
 obtain ⟨g, c, vs, hv⟩ := hd
 have hl := hv.small
 have HV : Hid (DvV 88 O W p s zs g c vs) := hv
 clear hv
 generalize hN : zs.length = N at *
 go_enter Tryz.func96, Tryz.ntmps96
 go_wp2
 go_loopw [2] (fun x wr => ∃ i : Nat, x = .int .i64 i ∧ i ≤ N ∧ DvV 88 O wr p s (upTo (fun _ z => fl z) zs i) g c vs ∧ Out O W wr) (fun x wr => N - (intOf x).toNat)
 case atStart => exact ⟨0, rfl, Nat.zero_le _, by rw [upTo_zero]; exact HV.out, Out.refl _ _⟩
 case round =>
  obtain ⟨i, rfl, hi, hv, ho⟩ := hrel
  have c4' := hv.pcell.2.2.2.2
  rw [upTo_length, hN] at c4'
  rcases Nat.lt_or_ge i N with hlt | hge
  ·obtain ⟨z, hz⟩ : ∃ z, zs[i]? = some z := ⟨zs[i]'(by omega), by simp⟩
   obtain ⟨a, cc, hu, hr, z0, z1⟩ := hv.at ((upTo_get _ _ _).trans hz)
   have f1 := hv.free (i * 2 + 1)
   have HS : Hid (DvV 88 O (wr.setCell ⟨g, i * 2 + 1, none⟩ (.int .i64 (z.1.length : Nat))) p s (upTo (fun _ z => fl z) zs (i + 1)) g c vs ∧ Out O W (wr.setCell ⟨g, i * 2 + 1, none⟩ (.int .i64 (z.1.length : Nat)))) := by
    refine ⟨?_, ho.setCell (p := ⟨g, i * 2 + 1, none⟩) (.inl hv.og) _⟩
    have := hv.setD ((upTo_get _ _ _).trans hz) (z.1.length : Nat)
    rw [← upTo_next _ _ hz]
    exact this
   have hi' : (i : Int) < (N : Int) := by omega
   have hw : IntKind.i64.wrap ((i : Int) + 1) = (i : Int) + 1 := by rw [IntKind.wrap_i64]; omega
   have k4 := HS.out.1.pcell.2.2.2.2
   rw [upTo_length, hN] at k4
   have k0 : (wr.setCell ⟨g, i * 2 + 1, none⟩ (.int .i64 (z.1.length : Nat))).cell? ⟨g, i * 2, none⟩ = some (.slice a z.1.length cc) := by
    rw [World.cell?_setCell_other _ _ _ _ (by intro e; injection e with _ e; omega)]; exact z0
   clear hv ho hr hu
   go_wp2
   go_region_held3 (fun w' => w'.cell? ⟨p, 4, none⟩ = some (.slice (some ⟨g, 0, none⟩) N c) ∧ w'.cell? ⟨g, i * 2, none⟩ = some (.slice a z.1.length cc)) (first | exact ⟨c4', z0⟩ | exact ⟨k4, k0⟩) (fail)
   clear z0 z1 c4' k4 k0
   generalize World.setCell _ _ _ = V at HS ⊢
   go_wp2
   go_roundw
   case rel => exact ⟨i + 1, by simp, by omega, HS.out.1.under (Below.refl _ _).drew, HS.out.2.drew⟩
   case measure => simp [intOf]; omega
  ·obtain rfl : i = N := by omega
   have HS : Hid (DvV 88 O wr p s (upTo (fun _ z => fl z) zs i) g c vs ∧ Out O W wr) := ⟨hv, ho⟩
   clear hv ho
   go_wp2
   go_end0
   refine ⟨⟨_, rfl⟩, step_of ⟨g, c, vs, ?_⟩ HS.out.2⟩
   have := HS.out.1
   rw [upTo_all _ _ (by omega)] at this
   exact this
end
end Go.Proofs.YtncnkpnfmbgifaaGreat

/- What one call of the document's Append does. -/
namespace Go.Proofs.YtncnkpnfmbgifaaGreat
open Go.RowKit Go.Shelf
set_option linter.unusedVariables false
set_option maxRecDepth 4000
theorem run_rows {O : Nat → Prop} {W : World} {a : Option Addr} {k c : Nat} {bs : List (List Int)} (h : RowAt O W (.slice a k c) bs) :
  ∃ a' c' w', (Builtin.append_ #[42, 42] 42 #[.slice none 0 0, .slice a k c]).run Tryz.prog W = .ok (.slice a' k c') w' ∧ RowAt (fun x => O x ∨ W.heap.size ≤ x) w' (.slice a' k c') bs ∧ Below W.heap.size W w' ∧ (∀ r, (Value.slice a' k c').ownBlock = some r → W.heap.size ≤ r) := by
 obtain ⟨i0, hi, hz0, hz1, hz2⟩ := info_parts Tryz.zero_bytes
 obtain ⟨vs, r1, r2, r3, r4⟩ := id h
 have hk : k = bs.length := (own_cap r1).2
 have hvl : vs.length = k := by rw [r3.1, hk]
 rcases r1.2 with ⟨hv, hn⟩ | ⟨g, cap, cur, hv, hB, hh, hnc, hcm, hcs, htk⟩
 ·cases hv
  obtain rfl : bs = [] := List.length_eq_zero_iff.1 hn
  exact ⟨none, 0, W, run_append_owned_none (P := Tryz.prog) W W.heap.size 42 42 43 i0 1 Tryz.underlying42 hi _ 0 [] (World.ownsRow_nil _ _ _ _), RowAt.nil _ _, Below.refl _ _, fun r e => by cases e⟩
 ·cases hv
  obtain ⟨v', w', h2, h3, h4, _⟩ := run_append_own (P := Tryz.prog) W W.heap.size 42 42 43 i0 (.slice none 0 0) 1 24 Tryz.underlying42 hi hz0 hz1 hz2 rfl (by decide) _ 0 [] (World.ownsRow_nil _ _ _ _) ⟨g, 0, none⟩ bs.length c vs (by omega) (r1.cells rfl) (by
   intro u hu
   obtain ⟨j, hj⟩ := List.getElem?_of_mem hu
   have hjl := (List.getElem?_eq_some_iff.1 hj).1
   obtain ⟨D, hD⟩ : ∃ D, bs[j]? = some D := ⟨bs[j]'(by rw [← r3.1]; exact hjl), by simp⟩
   obtain ⟨x, y, rfl⟩ := own_slice (r3.2 j u D hj hD).1
   rfl) (by unfold maxLen; omega) (by omega) (Nat.le_refl _)
  have h3' : w'.ownsRow W.heap.size 43 1 v' bs.length vs := by simpa using h3
  obtain ⟨a', c', rfl⟩ := own_slice h3'
  have hb : Below W.heap.size W w' := (Below.refl _ _).grown h4 (Nat.le_refl _) (fun k e => by cases e)
  refine ⟨a', c', w', h2, ⟨vs, own_zero h3', fun r e => .inr (h3'.lt r e).1, ?_, r4⟩, hb, fun r e => (h3'.lt r e).1⟩
  exact (r3.mono (O' := fun x => O x ∨ W.heap.size ≤ x) (fun x hx _ => .inl hx)).out (below_out Non hb) (fun _ _ _ _ e => e)

section
variable {O : Nat → Prop} {W : World} {p : Nat} {s : Sh} {zs : List Zn}
structure RAppM (T : TypeId) (O : Nat → Prop) (W1 : World) (p : Nat) (s : Sh) (zs : List Zn) (g cz i : Nat) (z : Zn) (ua : Option Addr) (uc : Nat) (D : List Int) (a2 : Option Addr) (c2 : Nat) (a3 : Option Addr) (c3 : Nat) (w5 : World) : Prop where
 cc : w5.cell? ⟨g, i * 2, none⟩ = some (.slice ua z.1.length uc)
 fz : w5.frozen? ⟨g, i * 2, none⟩ = false
 pc : w5.cell? ⟨p, 4, none⟩ = some (.slice (some ⟨g, 0, none⟩) zs.length cz)
 dev : ∃ vs', DvV T (fun x => O x ∨ W1.heap.size ≤ x) (w5.setCell ⟨g, i * 2, none⟩ (.slice a3 (z.1.length + 1) c3)) p s (zs.set i (z.1 ++ [D], z.2)) g cz vs'
 out : Out O W1 (w5.setCell ⟨g, i * 2, none⟩ (.slice a3 (z.1.length + 1) c3))
 blk : ∀ {q : Nat} {L : List Value} {t : TypeId}, Blk W1 q L t → t ≠ 43 → t ≠ 120 → Blk (w5.setCell ⟨g, i * 2, none⟩ (.slice a3 (z.1.length + 1) c3)) q L t
theorem rapp_mem {T : TypeId} {g cz : Nat} {vs : List Value} {i : Nat} {z : Zn} {ua : Option Addr} {uc : Nat} {D : List Int} {a2 : Option Addr} {c2 : Nat} {w2 w3 : World} {h : Value} (hv : DvV T O W p s zs g cz vs) (hz : zs[i]? = some z) (hu : vs[i]? = some (.slice ua z.1.length uc)) (hl : z.1.length + 1 ≤ 100000)
  (h2 : RowAt (fun x => O x ∨ W.heap.size ≤ x) w2 (.slice a2 z.1.length c2) z.1) (b2 : Below W.heap.size W w2) (f2 : ∀ r, (Value.slice a2 z.1.length c2).ownBlock = some r → W.heap.size ≤ r)
  (h3 : BkAt (fun x => w2.heap.size ≤ x) w3 h D) (b3 : Below w2.heap.size w2 w3) (ho : h.oneCell' = true) :
  ∃ a3 c3 w5, (Builtin.append_ #[42, 42] 42 #[.slice a2 z.1.length c2, .slice (some ⟨w3.heap.size, 0, none⟩) 1 1]).run Tryz.prog (w3.alloc (.cells #[h] 43)) = .ok (.slice a3 (z.1.length + 1) c3) w5 ∧ RAppM T O W p s zs g cz i z ua uc D a2 c2 a3 c3 w5 := by
 have hs2 := b2.size
 have hs3 := b3.size
 have row3 := h2.out (below_out Non b3) (fun _ _ e => e) (fun _ _ _ _ e => e)
 have bk3 := h3.mono (O' := fun x => O x ∨ W.heap.size ≤ x) (fun x hx _ => .inr (by omega))
 obtain ⟨a3, c3, w5, r5, row5, g5, f5⟩ := app_row row3 bk3 ho hl (fun k hk => .inr (by omega))
 obtain ⟨uv, u1, u2, _⟩ := row3
 have hb5 : Below W.heap.size W w5 := by
  refine (((b2.trans (b3.mono hs2))).alloc (by omega) _).grown g5 (by simp; omega) (fun k e => f2 k e)
 have hfr : ∀ r, (Value.slice a3 (z.1.length + 1) c3).ownBlock = some r → W.heap.size ≤ r := by
  intro r e
  rcases f5 with f5 | f5
  ·rw [f5] at e; exact f2 r e
  ·have := f5 r e; omega
 obtain ⟨k1, k2, k3, hd5⟩ := hv.upd (O1 := fun x => O x ∨ W.heap.size ≤ x) hz hu (below_out _ hb5) (fun x hx => .inl hx) row5 (.inr hfr)
 have hv5 := hv.under hb5
 obtain ⟨Lg, hLg⟩ := own_blk hv5.hg
 refine ⟨a3, c3, w5, r5, ⟨k1, k3 _, hv5.pcell.2.2.2.2, ⟨_, hd5⟩, (below_out O hb5).setCell (p := ⟨g, i * 2, none⟩) (.inl hv.og) _, ?_⟩⟩
 intro q L t hq ht hz'
 have q5 := hq.below hb5 hq.lt
 refine q5.set_other ?_ _
 intro e
 have : q = g := e
 subst this
 exact blk_ne q5 hLg hz' rfl

set_option maxHeartbeats 4000000 in
theorem rAppend_of (zn : Int) (a : Option Addr) (n c : Nat) (D : List Int) (hd : Dv 88 O W p s zs) (hw : Wf s zs) (hb : BIn W a n D) (hnil : a = none → n = 0 ∧ c = 0) (hn : n ≤ 100000) :
  Calls Tryz.prog 130 #[.pointer (some ⟨p, 0, none⟩), .int .i64 zn, .slice a n c] W (Apped 88 .i64 O W p s zs zn D) := by
 obtain ⟨q, hq⟩ : ∃ q, q = W.heap.size := ⟨_, rfl⟩
 obtain ⟨ab, abel⟩ := addr_blk hq
 have hd1 : Dv 88 O (W.alloc (.cells #[.int .i64 0, .int .i64 0] 49)) p s zs := by
  obtain ⟨g, c, vs, hv⟩ := hd; exact ⟨g, c, vs, hv.under (by rw [← hq]; exact abel)⟩
 have hb1 : BIn (W.alloc (.cells #[.int .i64 0, .int .i64 0] 49)) a n D := hb.alloc _
 have hl := hb.1
 go_enter Tryz.func130, Tryz.ntmps130
 go_upto_region 1 with fail
 rw [← hq]
 generalize hW1 : World.alloc _ _ = W1 at *
 clear hW1
 have e0 : W1.cell? ⟨q, 0, none⟩ = some (.int .i64 0) := ab.cell 0
 have e1 : W1.cell? ⟨q, 1, none⟩ = some (.int .i64 0) := ab.cell 1
 have f0 := ab.frozen 0
 have f1 := ab.frozen 1
 have HA : Hid (Blk W1 q [.int .i64 0, .int .i64 0] 49 ∧ Below q W W1 ∧ q = W.heap.size) := ⟨ab, abel, hq⟩
 have HD : Hid (Dv 88 O W p s zs ∧ Wf s zs) := ⟨hd, hw⟩
 have HI : Hid (BIn W1 a n D ∧ (a = none → n = 0 ∧ c = 0) ∧ n ≤ 100000 ∧ D.length = n) := ⟨hb1, hnil, hn, hl⟩
 clear ab abel hq hd hw hb hnil hn hb1 hl
 have fin : Hid (∀ (x y : Int), Blk ((W1.setCell ⟨q, 0, none⟩ (.int .i64 x)).setCell ⟨q, 1, none⟩ (.int .i64 y)) q [.int .i64 x, .int .i64 y] 49 ∧ Below W.heap.size W ((W1.setCell ⟨q, 0, none⟩ (.int .i64 x)).setCell ⟨q, 1, none⟩ (.int .i64 y))) := by
  intro x y
  refine ⟨(HA.out.1.set 0 _).set 1 _, ?_⟩
  rw [← HA.out.2.2]
  exact (HA.out.2.1.setCell (p := ⟨q, 0, none⟩) (Nat.le_refl _) _).setCell (p := ⟨q, 1, none⟩) (Nat.le_refl _) _
 obtain ⟨g, cz, vs, hv⟩ := hd1
 obtain ⟨p0, p1, p2, p3, c4⟩ := hv.pcell
 rcases zone_cases zs zn with ⟨i, z, rfl, hz, hi, hbb⟩ | ⟨hno, hbb⟩
 ·obtain ⟨ua, uc, hu, hr, z0, z1⟩ := hv.at hz
  have hi' : (i : Int) < zs.length := by omega
  clear hbb
  by_cases hlen : (n : Int) = s.b
  ·have hok : Hid (appOk s zs i D) := by
    show appOk s zs i D
    exact ⟨by omega, by omega, by rw [HI.out.2.2.2]; exact hlen⟩
   have b1 : ((n : Int) != s.b) = false := by simp [hlen]
   by_cases hfull : s.zb ≤ (z.1.length : Int)
   ·have hff : Hid (appFull s zs i) := by
     show appFull s zs i
     unfold appFull; rw [atZ_in hz]; exact hfull
    clear hv hr hu hz
    go_wp2
    refine bodyPost_ret (results_cell_two (p := 6) (u := 7) (ty := 49) rfl _ _ q _ _ _ rfl (fin.out 0 0).1 Tryz.underlying49 rfl Tryz.info_addr _ rfl) rfl ?_
    exact apped_full (q := q) hok.out hff.out HD.out.1 (fin.out 0 0).2
   ·have hff : Hid (¬ appFull s zs i) := by
     show ¬ appFull s zs i
     unfold appFull; rw [atZ_in hz]; exact hfull
    have hr4 := HD.out.2.right.2.2.2.1
    obtain ⟨a2, c2, w2, run2, row2, b2, fr2⟩ := run_rows hr
    have d4 := (b2.cell (old_block c4)).trans c4
    have dz := (b2.cell (old_block z0)).trans z0
    have HL : Hid (∃ w, Calls Tryz.prog 141 #[.slice a n c] w2 (LentE w2 D) ∧ w = w2) := ⟨w2, rLent_of a n c D w2 (HI.out.1.below b2) HI.out.2.1 (by have := HI.out.2.2.1; omega), rfl⟩
    have HR : Hid ((Builtin.append_ #[42, 42] 42 #[.slice none 0 0, .slice ua z.1.length uc]).run Tryz.prog W1 = .ok (.slice a2 z.1.length c2) w2 ∧ Below W1.heap.size W1 w2) := ⟨run2, b2⟩
    have HM : Hid (∀ w3 h, BkAt (fun x => w2.heap.size ≤ x) w3 h D → Below w2.heap.size w2 w3 → h.oneCell' = true → ∃ a3 c3 w5, (Builtin.append_ #[42, 42] 42 #[.slice a2 z.1.length c2, .slice (some ⟨w3.heap.size, 0, none⟩) 1 1]).run Tryz.prog (w3.alloc (.cells #[h] 43)) = .ok (.slice a3 (z.1.length + 1) c3) w5 ∧ RAppM 88 O W1 p s zs g cz i z ua uc D a2 c2 a3 c3 w5) := fun w3 h k1 k2 k3 => rapp_mem hv hz hu (by omega) row2 b2 fr2 k1 k2 k3
    have HZ : Hid (zs[i]? = some z) := hz
    clear hv hr hu hz hr4 run2 row2 b2 fr2
    go_upto_region 9 with (first
     | (at_builtin; refine wpList_append_run rfl (.tmp 59) (.tmp 62) 42 42 rfl _ _ rfl rfl _ _ M5.1 ?_)
     | (at_builtin; refine wpList_append_run rfl (.tmp 49) (.tmp 57) 42 42 rfl _ _ rfl rfl _ _ HR.out.1 ?_)
     | (go_at_call 141; obtain ⟨_, hl9, _⟩ := HL.out; refine hl9.mono ?_; rintro e w3 ⟨h3, rfl, bk3, bl3⟩; obtain ⟨x3, y3, e3⟩ := own_slice bk3.1; subst e3; obtain ⟨a3, c3, w5, M5⟩ := HM.out w3 _ bk3 bl3 rfl))
    have m0 := M5.2.cc
    have m1 := M5.2.fz
    have m2 := M5.2.pc
    have aq := M5.2.blk HA.out.1 (by decide) (by decide)
    have HV : Hid ((∃ vs', DvV 88 (fun x => O x ∨ W1.heap.size ≤ x) (w5.setCell ⟨g, i * 2, none⟩ (.slice a3 (z.1.length + 1) c3)) p s (zs.set i (z.1 ++ [D], z.2)) g cz vs') ∧ Out O W1 (w5.setCell ⟨g, i * 2, none⟩ (.slice a3 (z.1.length + 1) c3)) ∧ Blk (w5.setCell ⟨g, i * 2, none⟩ (.slice a3 (z.1.length + 1) c3)) q [.int .i64 0, .int .i64 0] 49 ∧ zs[i]? = some z) := ⟨M5.2.dev, M5.2.out, aq, HZ.out⟩
    clear M5 bk3 bl3 e0 e1 f0 f1 fin d4 dz z0 z1 p0 p1 p2 p3 c4
    go_upto_region 10 with fail
    generalize World.setCell w5 _ _ = V at HV aq ⊢
    have e0 : V.cell? ⟨q, 0, none⟩ = some (.int .i64 0) := aq.cell 0
    have e1 : V.cell? ⟨q, 1, none⟩ = some (.int .i64 0) := aq.cell 1
    have f0 := aq.frozen 0
    have f1 := aq.frozen 1
    clear aq m0 m1 m2
    go_wp2
    refine bodyPost_ret (results_cell_two (p := 6) (u := 7) (ty := 49) rfl _ _ q _ _ _ rfl ((HV.out.2.2.1.set 0 _).set 1 _) Tryz.underlying49 rfl Tryz.info_addr _ rfl) rfl ?_
    exact apped_ok hok.out hff.out HV.out.2.2.2 HA.out.2.1 HA.out.2.2 HV.out.1 HV.out.2.1 HV.out.2.2.1
  ·have hok : Hid (¬ appOk s zs i D) := by
    show ¬ appOk s zs i D
    rintro ⟨_, _, h⟩
    rw [HI.out.2.2.2] at h
    exact hlen h
   have b1 : ((n : Int) != s.b) = true := by simp [hlen]
   clear hv hr hu hz
   go_wp2
   refine bodyPost_ret (results_cell_two (p := 6) (u := 7) (ty := 49) rfl _ _ q _ _ _ rfl (fin.out 0 0).1 Tryz.underlying49 rfl Tryz.info_addr _ rfl) rfl ?_
   exact apped_no (q := q) hok.out HD.out.1 (fin.out 0 0).2
 ·have hok : Hid (¬ appOk s zs zn D) := by
   show ¬ appOk s zs zn D
   rintro ⟨h1, h2, _⟩
   exact hno ⟨h1, h2⟩
  rcases out_cases hno with h | ⟨h1, h2⟩
  ·clear hbb hno hv
   go_wp2
   refine bodyPost_ret (results_cell_two (p := 6) (u := 7) (ty := 49) rfl _ _ q _ _ _ rfl (fin.out 0 0).1 Tryz.underlying49 rfl Tryz.info_addr _ rfl) rfl ?_
   exact apped_no (q := q) hok.out HD.out.1 (fin.out 0 0).2
  ·clear hbb hno hv
   go_wp2
   refine bodyPost_ret (results_cell_two (p := 6) (u := 7) (ty := 49) rfl _ _ q _ _ _ rfl (fin.out 0 0).1 Tryz.underlying49 rfl Tryz.info_addr _ rfl) rfl ?_
   exact apped_no (q := q) hok.out HD.out.1 (fin.out 0 0).2
end
end Go.Proofs.YtncnkpnfmbgifaaGreat

/- What one call of the document's Read does. -/
namespace Go.Proofs.YtncnkpnfmbgifaaGreat
open Go.RowKit Go.Shelf
set_option linter.unusedVariables false
set_option maxRecDepth 4000
section
variable {O : Nat → Prop} {W : World} {p : Nat} {s : Sh} {zs : List Zn}
set_option maxHeartbeats 4000000 in
theorem rRead_of (zn bn : Int) (hd : Dv 88 O W p s zs) (hw : Wf s zs) :
  Calls Tryz.prog 90 #[.pointer (some ⟨p, 0, none⟩), .agg #[.int .i64 zn, .int .i64 bn]] W (ReadE .i64 W zs zn bn) := by
 obtain ⟨q, hq⟩ : ∃ q, q = W.heap.size := ⟨_, rfl⟩
 have ab : Blk (W.alloc (.cells #[.int .i64 zn, .int .i64 bn] 49)) q [.int .i64 zn, .int .i64 bn] 49 := Blk.new' hq.symm rfl
 have abel : Below q W (W.alloc (.cells #[.int .i64 zn, .int .i64 bn] 49)) := (Below.refl _ _).alloc (by omega) _
 have hd1 : Dv 88 O (W.alloc (.cells #[.int .i64 zn, .int .i64 bn] 49)) p s zs := by
  obtain ⟨g, c, vs, hv⟩ := hd; exact ⟨g, c, vs, hv.under (by rw [← hq]; exact abel)⟩
 go_enter Tryz.func90, Tryz.ntmps90
 go_upto_region 1 with fail
 rw [← hq]
 generalize hW1 : World.alloc _ _ = W1 at *
 clear hW1
 have e0 : W1.cell? ⟨q, 0, none⟩ = some (.int .i64 zn) := ab.cell 0
 have e1 : W1.cell? ⟨q, 1, none⟩ = some (.int .i64 bn) := ab.cell 1
 have HA : Hid (Below W.heap.size W W1 ∧ Wf s zs) := ⟨by rw [← hq]; exact abel, hw⟩
 clear ab abel hd hw hq
 obtain ⟨g, cz, vs, hv⟩ := hd1
 obtain ⟨p0, p1, p2, p3, c4⟩ := hv.pcell
 rcases zone_cases zs zn with ⟨i, z, rfl, hz, hi, hbb⟩ | ⟨hno, hbb⟩
 ·obtain ⟨ua, uc, hu, hr, z0, z1⟩ := hv.at hz
  have hi' : (i : Int) < zs.length := by omega
  have hi0 : decide ((i : Int) < 0) = false := by simp
  have hi1 : decide ((zs.length : Int) ≤ (i : Int)) = false := by simp; omega
  have hi2 : decide (zs.length ≤ i) = false := by simp; omega
  have hzi : zoneIn zs i := ⟨by omega, by omega⟩
  clear hbb
  by_cases hbi : 0 ≤ bn ∧ bn ≤ (z.1.length : Int) - 1
  ·obtain ⟨j, rfl⟩ : ∃ j : Nat, bn = j := ⟨bn.toNat, by omega⟩
   have hj : j < z.1.length := by omega
   obtain ⟨D, hD⟩ : ∃ D, z.1[j]? = some D := ⟨z.1[j], by simp⟩
   obtain ⟨b, off, A, L, C, rfl, k1, k2, k3, k4⟩ := hv.block HA.out.2 hz hu hD
   have HI : Hid (∀ V, Below W1.heap.size W1 V → Calls Tryz.prog 141 #[.slice A L C] V (LentE V D)) := fun V hV => rLent_of A L C D V (k2.below hV) k3 (by omega)
   have HZ : Hid (zs[i]? = some z ∧ z.1[j]? = some D) := ⟨hz, hD⟩
   have hj' : (j : Int) < z.1.length := by omega
   have hj0 : decide ((j : Int) < 0) = false := by simp
   have hj1 : decide ((z.1.length : Int) ≤ (j : Int)) = false := by simp; omega
   have hj2 : decide (z.1.length ≤ j) = false := by simp; omega
   clear k2 k3 k4 hv hr hu hz hD hbi
   go_quiet (fail)
   go_wp2
   go_quiet (fail)
   go_wp2
   go_region_held3 (fun w' => w'.cell? ⟨p, 4, none⟩ = some (.slice (some ⟨g, 0, none⟩) zs.length cz) ∧ w'.cell? ⟨q, 0, none⟩ = some (.int .i64 i) ∧ w'.cell? ⟨q, 1, none⟩ = some (.int .i64 j) ∧ w'.cell? ⟨g, i * 2, none⟩ = some (.slice (some ⟨b, off, none⟩) z.1.length uc) ∧ w'.cell? ⟨b, off + j, none⟩ = some (.slice A L C)) (first | exact ⟨c4, e0, e1, z0, k1⟩ | exact ⟨m4, m0, m1, n0, n1⟩)
    ((go_at_call 141; refine (HI.out _ (by exact ⟨rfl, rfl, rfl, Nat.le_refl _, fun _ _ => rfl⟩)).mono ?_; rintro e w3 ⟨h3, rfl, bk3, bl3⟩; have m4 := (bl3.cell (old_block c4)).trans c4; have m0 := (bl3.cell (old_block e0)).trans e0; have m1 := (bl3.cell (old_block e1)).trans e1; have n0 := (bl3.cell (old_block z0)).trans z0; have n1 := (bl3.cell (old_block k1)).trans k1))
   go_wp2
   go_ret2
   have hsz := HA.out.1.size
   have bl4 : Below W1.heap.size W1 w3 := ⟨bl3.os, bl3.tape, bl3.output, bl3.size, bl3.block⟩
   exact read_ok HZ.out.1 HZ.out.2 (bk3.mono (fun x hx _ => Nat.le_trans hsz hx)) (HA.out.1.trans (bl4.mono hsz))
  ·have HN : Hid (zoneIn zs i ∧ ¬ blockIn zs i bn) := ⟨hzi, by unfold blockIn; rw [atZ_in hz]; exact hbi⟩
   by_cases hb0 : bn < 0
   ·clear hv hr hu hz hbi hzi
    go_quiet (fail)
    go_wp2
    go_quiet (fail)
    go_wp2
    go_ret2
    exact read_none HN.out.1 HN.out.2 (HA.out.1.trans ⟨rfl, rfl, rfl, Nat.le_refl _, fun _ _ => rfl⟩)
   ·have hge : (z.1.length : Int) ≤ bn := by omega
    have b0 : decide (bn < 0) = false := by simp; omega
    have b1 : decide ((z.1.length : Int) ≤ bn) = true := by simp; omega
    clear hv hr hu hz hbi hzi
    go_quiet (fail)
    go_wp2
    go_quiet (fail)
    go_wp2
    go_ret2
    exact read_none HN.out.1 HN.out.2 (HA.out.1.trans ⟨rfl, rfl, rfl, Nat.le_refl _, fun _ _ => rfl⟩)
 ·have HN : Hid (¬ zoneIn zs zn) := hno
  rcases out_cases hno with h | ⟨h1, h2⟩
  ·have hb : decide (zn < 0) = true := by simp [h]
   clear hbb hno hv
   go_quiet (fail)
   go_wp2
   go_ret2
   exact read_no HN.out (HA.out.1.trans ⟨rfl, rfl, rfl, Nat.le_refl _, fun _ _ => rfl⟩)
  ·have hb : decide (zn < 0) = false := by simp; omega
   have hb2 : decide ((zs.length : Int) ≤ zn) = true := by simp [h2]
   clear hbb hno hv
   go_quiet (fail)
   go_wp2
   go_ret2
   exact read_no HN.out (HA.out.1.trans ⟨rfl, rfl, rfl, Nat.le_refl _, fun _ _ => rfl⟩)
end
end Go.Proofs.YtncnkpnfmbgifaaGreat
