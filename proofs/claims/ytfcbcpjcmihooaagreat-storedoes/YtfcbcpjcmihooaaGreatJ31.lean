/- Texts of this seat, one behind the other: ZRApp, StDr, StDq, LmI. -/
import Derived.Test.YtfcbcpjcmihooaaGreatJ13
import Derived.Test.YtfcbcpjcmihooaaGreatJ30
import Derived.Test.YtfcbcpjcmihooaaGreatJ29
import Derived.Test.YtfcbcpjcmihooaaGreatJ22
import Derived.Deep.DeepCutAuto
import Derived.Test.YtfcbcpjcmihooaaGreatJ23
import Derived.Test.YtfcbcpjcmihooaaGreatJ28
import Derived.Shelf.SlSortCmp.NoneTotal
/- What one call of the document's Append does. -/
namespace Go.Proofs.YtfcbcpjcmihooaaGreat
open Go.RowKit Go.Shelf
set_option linter.unusedVariables false
set_option maxRecDepth 4000
/-- A row's headers, copied. -/
theorem run_rows {O : Nat → Prop} {W : World} {a : Option Addr} {k c : Nat} {bs : List (List Int)} (h : RowAt O W (.slice a k c) bs) :
    ∃ a' c' w', (Builtin.append_ #[78, 78] 78 #[.slice none 0 0, .slice a k c]).run Tryz.prog W = .ok (.slice a' k c') w' ∧ RowAt (fun x => O x ∨ W.heap.size ≤ x) w' (.slice a' k c') bs ∧ Below W.heap.size W w' ∧ (∀ r, (Value.slice a' k c').ownBlock = some r → W.heap.size ≤ r) := by
  obtain ⟨i0, hi, hz0, hz1, hz2⟩ := info_parts Tryz.zero_bytes
  obtain ⟨vs, r1, r2, r3, r4⟩ := id h
  have hk : k = bs.length := (own_cap r1).2
  have hvl : vs.length = k := by rw [r3.1, hk]
  rcases r1.2 with ⟨hv, hn⟩ | ⟨g, cap, cur, hv, hB, hh, hnc, hcm, hcs, htk⟩
  · cases hv
    obtain rfl : bs = [] := List.length_eq_zero_iff.1 hn
    exact ⟨none, 0, W, run_append_owned_none (P := Tryz.prog) W W.heap.size 78 78 36 i0 1 Tryz.underlying78 hi _ 0 [] (World.ownsRow_nil _ _ _ _), RowAt.nil _ _, Below.refl _ _, fun r e => by cases e⟩
  · cases hv
    obtain ⟨v', w', h2, h3, h4, _⟩ := run_append_own (P := Tryz.prog) W W.heap.size 78 78 36 i0 (.slice none 0 0) 1 24 Tryz.underlying78 hi hz0 hz1 hz2 rfl (by decide) _ 0 [] (World.ownsRow_nil _ _ _ _) ⟨g, 0, none⟩ bs.length c vs (by omega) (r1.cells rfl) (by
      intro u hu
      obtain ⟨j, hj⟩ := List.getElem?_of_mem hu
      have hjl := (List.getElem?_eq_some_iff.1 hj).1
      obtain ⟨D, hD⟩ : ∃ D, bs[j]? = some D := ⟨bs[j]'(by rw [← r3.1]; exact hjl), by simp⟩
      obtain ⟨x, y, rfl⟩ := own_slice (r3.2 j u D hj hD).1
      rfl) (by unfold maxLen; omega) (by omega) (Nat.le_refl _)
    have h3' : w'.ownsRow W.heap.size 36 1 v' bs.length vs := by simpa using h3
    obtain ⟨a', c', rfl⟩ := own_slice h3'
    have hb : Below W.heap.size W w' := (Below.refl _ _).grown h4 (Nat.le_refl _) (fun k e => by cases e)
    refine ⟨a', c', w', h2, ⟨vs, own_zero h3', fun r e => .inr (h3'.lt r e).1, ?_, r4⟩, hb, fun r e => (h3'.lt r e).1⟩
    exact (r3.mono (O' := fun x => O x ∨ W.heap.size ≤ x) (fun x hx _ => .inl hx)).out (below_out Non hb) (fun _ _ _ _ e => e)

section
variable {O : Nat → Prop} {W : World} {p : Nat} {s : Sh} {zs : List Zn}
structure RAppM (T : TypeId) (O : Nat → Prop) (W1 : World) (p : Nat) (s : Sh) (zs : List Zn) (g cz i : Nat) (z : Zn) (ua : Option Addr) (uc : Nat) (D : List Int) (a2 : Option Addr) (c2 : Nat) (a3 : Option Addr) (c3 : Nat) (w5 : World) : Prop where
  cc : w5.cell? ⟨g, i * 2, none⟩ = some (.slice ua z.1.length uc)
  fz : w5.frozen? ⟨g, i * 2, none⟩ = false
  pc : w5.cell? ⟨p, 4, none⟩ = some (.slice (some ⟨g, 0, none⟩) zs.length cz)
  dev : ∃ vs', DvV T (fun x => O x ∨ W1.heap.size ≤ x) (w5.setCell ⟨g, i * 2, none⟩ (.slice a3 (z.1.length + 1) c3)) p s (zs.set i (z.1 ++ [D], z.2)) g cz vs'
  out : Out O W1 (w5.setCell ⟨g, i * 2, none⟩ (.slice a3 (z.1.length + 1) c3))
  blk : ∀ {q : Nat} {L : List Value} {t : TypeId}, Blk W1 q L t → t ≠ 36 → t ≠ 107 → Blk (w5.setCell ⟨g, i * 2, none⟩ (.slice a3 (z.1.length + 1) c3)) q L t
theorem rapp_mem {T : TypeId} {g cz : Nat} {vs : List Value} {i : Nat} {z : Zn} {ua : Option Addr} {uc : Nat} {D : List Int} {a2 : Option Addr} {c2 : Nat} {w2 w3 : World} {h : Value} (hv : DvV T O W p s zs g cz vs) (hz : zs[i]? = some z) (hu : vs[i]? = some (.slice ua z.1.length uc)) (hl : z.1.length + 1 ≤ 100000)
    (h2 : RowAt (fun x => O x ∨ W.heap.size ≤ x) w2 (.slice a2 z.1.length c2) z.1) (b2 : Below W.heap.size W w2) (f2 : ∀ r, (Value.slice a2 z.1.length c2).ownBlock = some r → W.heap.size ≤ r)
    (h3 : BkAt (fun x => w2.heap.size ≤ x) w3 h D) (b3 : Below w2.heap.size w2 w3) (ho : h.oneCell' = true) :
    ∃ a3 c3 w5, (Builtin.append_ #[78, 78] 78 #[.slice a2 z.1.length c2, .slice (some ⟨w3.heap.size, 0, none⟩) 1 1]).run Tryz.prog (w3.alloc (.cells #[h] 36)) = .ok (.slice a3 (z.1.length + 1) c3) w5 ∧ RAppM T O W p s zs g cz i z ua uc D a2 c2 a3 c3 w5 := by
  have hs2 := b2.size
  have hs3 := b3.size
  have row3 := h2.out (below_out Non b3) (fun _ _ e => e) (fun _ _ _ _ e => e)
  have bk3 := h3.mono (O' := fun x => O x ∨ W.heap.size ≤ x) (fun x hx _ => .inr (by omega))
  obtain ⟨a3, c3, w5, r5, row5, g5, f5⟩ := app_row row3 bk3 ho hl (fun k hk => .inr (by omega))
  obtain ⟨uv, u1, u2, _⟩ := row3
  have hb5 : Below W.heap.size W w5 := by
    refine (((b2.trans (b3.mono hs2))).alloc (by omega) _).grown g5 (by simp; omega) (fun k e => f2 k e)
  have hfr : ∀ r, (Value.slice a3 (z.1.length + 1) c3).ownBlock = some r → W.heap.size ≤ r := by
    intro r e
    rcases f5 with f5 | f5
    · rw [f5] at e; exact f2 r e
    · have := f5 r e; omega
  obtain ⟨k1, k2, k3, hd5⟩ := hv.upd (O1 := fun x => O x ∨ W.heap.size ≤ x) hz hu (below_out _ hb5) (fun x hx => .inl hx) row5 (.inr hfr)
  have hv5 := hv.under hb5
  obtain ⟨Lg, hLg⟩ := own_blk hv5.hg
  refine ⟨a3, c3, w5, r5, ⟨k1, k3 _, hv5.pcell.2.2.2.2, ⟨_, hd5⟩, (below_out O hb5).setCell (p := ⟨g, i * 2, none⟩) (.inl hv.og) _, ?_⟩⟩
  intro q L t hq ht hz'
  have q5 := hq.below hb5 hq.lt
  refine q5.set_other ?_ _
  intro e
  have : q = g := e
  subst this
  exact blk_ne q5 hLg hz' rfl

set_option maxHeartbeats 4000000 in
theorem rAppend_of (zn : Int) (a : Option Addr) (n c : Nat) (D : List Int) (hd : Dv 142 O W p s zs) (hw : Wf s zs) (hb : BIn W a n D) (hnil : a = none → n = 0 ∧ c = 0) (hn : n ≤ 100000) :
    Calls Tryz.prog 101 #[.pointer (some ⟨p, 0, none⟩), .int .i64 zn, .slice a n c] W (Apped 142 .i64 O W p s zs zn D) := by
  obtain ⟨q, hq⟩ : ∃ q, q = W.heap.size := ⟨_, rfl⟩
  obtain ⟨ab, abel⟩ := addr_blk hq
  have hd1 : Dv 142 O (W.alloc (.cells #[.int .i64 0, .int .i64 0] 60)) p s zs := by
    obtain ⟨g, c, vs, hv⟩ := hd; exact ⟨g, c, vs, hv.under (by rw [← hq]; exact abel)⟩
  have hb1 : BIn (W.alloc (.cells #[.int .i64 0, .int .i64 0] 60)) a n D := hb.alloc _
  have hl := hb.1
  go_enter Tryz.func101, Tryz.ntmps101
  go_upto_region 1 with fail
  rw [← hq]
  generalize hW1 : World.alloc _ _ = W1 at *
  clear hW1
  have e0 : W1.cell? ⟨q, 0, none⟩ = some (.int .i64 0) := ab.cell 0
  have e1 : W1.cell? ⟨q, 1, none⟩ = some (.int .i64 0) := ab.cell 1
  have f0 := ab.frozen 0
  have f1 := ab.frozen 1
  have HA : Hid (Blk W1 q [.int .i64 0, .int .i64 0] 60 ∧ Below q W W1 ∧ q = W.heap.size) := ⟨ab, abel, hq⟩
  have HD : Hid (Dv 142 O W p s zs ∧ Wf s zs) := ⟨hd, hw⟩
  have HI : Hid (BIn W1 a n D ∧ (a = none → n = 0 ∧ c = 0) ∧ n ≤ 100000 ∧ D.length = n) := ⟨hb1, hnil, hn, hl⟩
  clear ab abel hq hd hw hb hnil hn hb1 hl
  have fin : Hid (∀ (x y : Int), Blk ((W1.setCell ⟨q, 0, none⟩ (.int .i64 x)).setCell ⟨q, 1, none⟩ (.int .i64 y)) q [.int .i64 x, .int .i64 y] 60 ∧ Below W.heap.size W ((W1.setCell ⟨q, 0, none⟩ (.int .i64 x)).setCell ⟨q, 1, none⟩ (.int .i64 y))) := by
    intro x y
    refine ⟨(HA.out.1.set 0 _).set 1 _, ?_⟩
    rw [← HA.out.2.2]
    exact (HA.out.2.1.setCell (p := ⟨q, 0, none⟩) (Nat.le_refl _) _).setCell (p := ⟨q, 1, none⟩) (Nat.le_refl _) _
  obtain ⟨g, cz, vs, hv⟩ := hd1
  obtain ⟨p0, p1, p2, p3, c4⟩ := hv.pcell
  rcases zone_cases zs zn with ⟨i, z, rfl, hz, hi, hbb⟩ | ⟨hno, hbb⟩
  · obtain ⟨ua, uc, hu, hr, z0, z1⟩ := hv.at hz
    have hi' : (i : Int) < zs.length := by omega
    clear hbb
    by_cases hlen : (n : Int) = s.b
    · have hok : Hid (appOk s zs i D) := by
        show appOk s zs i D
        exact ⟨by omega, by omega, by rw [HI.out.2.2.2]; exact hlen⟩
      have b1 : ((n : Int) != s.b) = false := by simp [hlen]
      by_cases hfull : s.zb ≤ (z.1.length : Int)
      · have hff : Hid (appFull s zs i) := by
          show appFull s zs i
          unfold appFull; rw [atZ_in hz]; exact hfull
        clear hv hr hu hz
        go_wp2
        refine bodyPost_ret (results_cell_two (p := 6) (u := 7) (ty := 60) rfl _ _ q _ _ _ rfl (fin.out 0 0).1 Tryz.underlying60 rfl Tryz.info_addr _ rfl) rfl ?_
        exact apped_full (q := q) hok.out hff.out HD.out.1 (fin.out 0 0).2
      · have hff : Hid (¬ appFull s zs i) := by
          show ¬ appFull s zs i
          unfold appFull; rw [atZ_in hz]; exact hfull
        have hr4 := HD.out.2.right.2.2.2.1
        obtain ⟨a2, c2, w2, run2, row2, b2, fr2⟩ := run_rows hr
        have d4 := (b2.cell (old_block c4)).trans c4
        have dz := (b2.cell (old_block z0)).trans z0
        have HL : Hid (∃ w, Calls Tryz.prog 114 #[.slice a n c] w2 (LentE w2 D) ∧ w = w2) := ⟨w2, rLent_of a n c D w2 (HI.out.1.below b2) HI.out.2.1 (by have := HI.out.2.2.1; omega), rfl⟩
        have HR : Hid ((Builtin.append_ #[78, 78] 78 #[.slice none 0 0, .slice ua z.1.length uc]).run Tryz.prog W1 = .ok (.slice a2 z.1.length c2) w2 ∧ Below W1.heap.size W1 w2) := ⟨run2, b2⟩
        have HM : Hid (∀ w3 h, BkAt (fun x => w2.heap.size ≤ x) w3 h D → Below w2.heap.size w2 w3 → h.oneCell' = true → ∃ a3 c3 w5, (Builtin.append_ #[78, 78] 78 #[.slice a2 z.1.length c2, .slice (some ⟨w3.heap.size, 0, none⟩) 1 1]).run Tryz.prog (w3.alloc (.cells #[h] 36)) = .ok (.slice a3 (z.1.length + 1) c3) w5 ∧ RAppM 142 O W1 p s zs g cz i z ua uc D a2 c2 a3 c3 w5) := fun w3 h k1 k2 k3 => rapp_mem hv hz hu (by omega) row2 b2 fr2 k1 k2 k3
        have HZ : Hid (zs[i]? = some z) := hz
        clear hv hr hu hz hr4 run2 row2 b2 fr2
        go_upto_region 9 with (first
          | (at_builtin; refine wpList_append_run rfl (.tmp 59) (.tmp 62) 78 78 rfl _ _ rfl rfl _ _ M5.1 ?_)
          | (at_builtin; refine wpList_append_run rfl (.tmp 49) (.tmp 57) 78 78 rfl _ _ rfl rfl _ _ HR.out.1 ?_)
          | (go_at_call 114; obtain ⟨_, hl9, _⟩ := HL.out; refine hl9.mono ?_; rintro e w3 ⟨h3, rfl, bk3, bl3⟩; obtain ⟨x3, y3, e3⟩ := own_slice bk3.1; subst e3; obtain ⟨a3, c3, w5, M5⟩ := HM.out w3 _ bk3 bl3 rfl))
        have m0 := M5.2.cc
        have m1 := M5.2.fz
        have m2 := M5.2.pc
        have aq := M5.2.blk HA.out.1 (by decide) (by decide)
        have HV : Hid ((∃ vs', DvV 142 (fun x => O x ∨ W1.heap.size ≤ x) (w5.setCell ⟨g, i * 2, none⟩ (.slice a3 (z.1.length + 1) c3)) p s (zs.set i (z.1 ++ [D], z.2)) g cz vs') ∧ Out O W1 (w5.setCell ⟨g, i * 2, none⟩ (.slice a3 (z.1.length + 1) c3)) ∧ Blk (w5.setCell ⟨g, i * 2, none⟩ (.slice a3 (z.1.length + 1) c3)) q [.int .i64 0, .int .i64 0] 60 ∧ zs[i]? = some z) := ⟨M5.2.dev, M5.2.out, aq, HZ.out⟩
        clear M5 bk3 bl3 e0 e1 f0 f1 fin d4 dz z0 z1 p0 p1 p2 p3 c4
        go_upto_region 10 with fail
        generalize World.setCell w5 _ _ = V at HV aq ⊢
        have e0 : V.cell? ⟨q, 0, none⟩ = some (.int .i64 0) := aq.cell 0
        have e1 : V.cell? ⟨q, 1, none⟩ = some (.int .i64 0) := aq.cell 1
        have f0 := aq.frozen 0
        have f1 := aq.frozen 1
        clear aq m0 m1 m2
        go_wp2
        refine bodyPost_ret (results_cell_two (p := 6) (u := 7) (ty := 60) rfl _ _ q _ _ _ rfl ((HV.out.2.2.1.set 0 _).set 1 _) Tryz.underlying60 rfl Tryz.info_addr _ rfl) rfl ?_
        exact apped_ok hok.out hff.out HV.out.2.2.2 HA.out.2.1 HA.out.2.2 HV.out.1 HV.out.2.1 HV.out.2.2.1
    · have hok : Hid (¬ appOk s zs i D) := by
        show ¬ appOk s zs i D
        rintro ⟨_, _, h⟩
        rw [HI.out.2.2.2] at h
        exact hlen h
      have b1 : ((n : Int) != s.b) = true := by simp [hlen]
      clear hv hr hu hz
      go_wp2
      refine bodyPost_ret (results_cell_two (p := 6) (u := 7) (ty := 60) rfl _ _ q _ _ _ rfl (fin.out 0 0).1 Tryz.underlying60 rfl Tryz.info_addr _ rfl) rfl ?_
      exact apped_no (q := q) hok.out HD.out.1 (fin.out 0 0).2
  · have hok : Hid (¬ appOk s zs zn D) := by
      show ¬ appOk s zs zn D
      rintro ⟨h1, h2, _⟩
      exact hno ⟨h1, h2⟩
    rcases out_cases hno with h | ⟨h1, h2⟩
    · clear hbb hno hv
      go_wp2
      refine bodyPost_ret (results_cell_two (p := 6) (u := 7) (ty := 60) rfl _ _ q _ _ _ rfl (fin.out 0 0).1 Tryz.underlying60 rfl Tryz.info_addr _ rfl) rfl ?_
      exact apped_no (q := q) hok.out HD.out.1 (fin.out 0 0).2
    · clear hbb hno hv
      go_wp2
      refine bodyPost_ret (results_cell_two (p := 6) (u := 7) (ty := 60) rfl _ _ q _ _ _ rfl (fin.out 0 0).1 Tryz.underlying60 rfl Tryz.info_addr _ rfl) rfl ?_
      exact apped_no (q := q) hok.out HD.out.1 (fin.out 0 0).2
end
end Go.Proofs.YtfcbcpjcmihooaaGreat

/- What one call of record of the document's store does. -/
namespace Go.Proofs.YtfcbcpjcmihooaaGreat
open Go.RowKit
set_option linter.unusedVariables false
set_option maxRecDepth 4000
/-- One record of the document's: no zone is turned. -/
def recM (st : St) (z : Int) (l : List Pt) : St :=
  { st with zs := (wrY st z l l.length).1, S := (wrY st z l l.length).2, q := incU st.q, la := st.la.set z.toNat (incU st.q) }
section
variable {D M : Nat → Prop} {W : World} {k : Rs} {st : St}
set_option maxHeartbeats 8000000 in
theorem dsrecord_of (z : Nat) (h : SdV D M W k st) (hz : z < st.zs.length) (a : Option Addr) (n cc : Nat) (l : List Pt) (X : Nat → Prop) (hl : PtsIn X W a n l) (hX : ∀ x, X x → ¬ SdO D M k x ∧ x < W.heap.size) (hS : st.S.length + n ≤ 10000) :
    Calls Tryz.prog 138 #[.pointer (some ⟨k.ps, 0, none⟩), .int .i64 (z : Nat), .slice a n cc] W fun e w' => e = .returned (.tuple #[]) ∧ Sd (SdO D M k) W k (recM st z l) w' ∧ (recM st z l).S.length ≤ st.S.length + n := by
  obtain ⟨c0, c1, c2, c3, c4, c5⟩ := h.cells
  have hq := wrap_inc st.q
  have H : Hid (SdV D M W k st ∧ PtsIn X W a n l ∧ (∀ x, X x → ¬ SdO D M k x ∧ x < W.heap.size) ∧ st.S.length + n ≤ 10000 ∧ z < st.zs.length) := ⟨h, hl, hX, hS, hz⟩
  have hn1 := hl.2.1
  obtain ⟨q, hqe⟩ : ∃ q, q = W.heap.size := ⟨_, rfl⟩
  have HR : Hid (WI q W (W.alloc (.cells #[.int .u64 (incU st.q), .slice none 0 0] 177)) (incU st.q) none 0 0 [] ∧ q = W.heap.size) := ⟨⟨Blk.new' hqe.symm rfl, World.ownsRow_nil _ _ _ _, (Below.refl _ _).alloc (by omega) _⟩, hqe⟩
  clear h hl hX hS hz
  go_enter Tryz.func138, Tryz.ntmps138
  go_wp2_with fail
  rw [← hqe]
  clear hqe c0 c1 c2 c3 c4 c5 hq
  generalize World.alloc W _ = W1 at HR ⊢
  have HP : Hid (∀ V, Below q W V → PtsIn X V a n l) := fun V hb => H.out.2.1.out (below_out' (O := fun j => q ≤ j) hb (fun j h _ => h)) (fun x hx => by have := (H.out.2.2.1 x hx).2; have := HR.out.2; omega)
  go_loopw [7, 8] (fun x _ wr => ∃ (j : Nat) (A : Option Addr) (C : Nat), x = .int .i64 j ∧ j ≤ n ∧ WI q W wr (incU st.q) A j C ((l.take j).map itP)) (fun x _ _ => n - (intOf x).toNat)
  case atStart => exact ⟨0, none, 0, rfl, Nat.zero_le _, by simpa using HR.out.1⟩
  case round =>
    obtain ⟨j, A, C, rfl, hj, hw⟩ := hrel
    rcases Nat.lt_or_ge j n with hlt | hge
    · have hj' : (j : Int) < n := by omega
      have hwj : IntKind.i64.wrap ((j : Int) + 1) = (j : Int) + 1 := by rw [IntKind.wrap_i64]; omega
      obtain ⟨p, b, off, hp, rfl, hb, A1, L1, C1, hcl, hbin, _, hL1, _, hfit⟩ := (HP.out wr hw.bel).at X hlt
      have x0 : wr.cell? ⟨b, off + j * 4, none⟩ = some (.int .u32 p.t) := hcl 0 _ rfl
      have x1 : wr.cell? ⟨b, off + j * 4 + 1, none⟩ = some (.int .u64 p.b) := hcl 1 _ rfl
      have x2 : wr.cell? ⟨b, off + j * 4 + 2, none⟩ = some (.bool p.x) := hcl 2 _ rfl
      have x3 : wr.cell? ⟨b, off + j * 4 + 3, none⟩ = some (.slice A1 L1 C1) := hcl 3 _ rfl
      obtain ⟨g, hg⟩ : ∃ g, g = wr.heap.size := ⟨_, rfl⟩
      have hbg : b ≠ g := by
        have := old_block x0
        show b ≠ g
        intro e
        rw [hg] at e
        simp at this
        omega
      have xa : ∀ o, (wr.alloc o).cell? ⟨b, off + j * 4, none⟩ = some (.int .u32 p.t) := fun o => (((Below.refl _ _).alloc (Nat.le_refl _) o).cell (old_block x0)).trans x0
      have xb : ∀ o, (wr.alloc o).cell? ⟨b, off + j * 4 + 1, none⟩ = some (.int .u64 p.b) := fun o => (((Below.refl _ _).alloc (Nat.le_refl _) o).cell (old_block x1)).trans x1
      have HN : Hid ((l.take (j + 1)).map itP = (l.take j).map itP ++ [itP p]) := by show _ = _; rw [take_snoc hp]; simp
      have HW : Hid (WI q W wr (incU st.q) A j C ((l.take j).map itP) ∧ g = wr.heap.size) := ⟨hw, hg⟩
      have HS : Hid (∀ Y, Below g wr Y → Calls Tryz.prog 151 #[.slice A1 L1 C1] Y fun e w' => e = .returned (.int .u32 (crI 0 p.d)) ∧ w' = Y) := fun Y hY => dCrcSum_of A1 L1 C1 p.d Y (hbin.below (by rw [← hg]; exact hY))
      have HE : Hid (∀ Y, Below g wr Y → Calls Tryz.prog 182 #[.slice A1 L1 C1] Y fun e w' => e = .returned (.int .i64 (endsN p.d : Nat)) ∧ w' = Y) := fun Y hY => dEnds_of A1 L1 C1 p.d Y (hbin.below (by rw [← hg]; exact hY))
      have hwE : IntKind.u16.wrap ((endsN p.d : Nat) : Int) = ((endsN p.d : Nat) : Int) := by have := (ends_at p.d).1; have := hbin.1; rw [IntKind.wrap_u16]; omega
      have HC : Hid (∀ Y, Below g wr Y → Y.cell? ⟨b, off + j * 4 + 2, none⟩ = some (.bool p.x) ∧ Y.cell? ⟨b, off + j * 4 + 3, none⟩ = some (.slice A1 L1 C1)) := fun Y hY => ⟨((by rw [hg] at hY; exact hY : Below wr.heap.size wr Y).cell (old_block x2)).trans x2, ((by rw [hg] at hY; exact hY : Below wr.heap.size wr Y).cell (old_block x3)).trans x3⟩
      have HV : Hid (Below g wr (wr.alloc (.cells #[.int .u32 p.t, .int .u64 p.b, .int .u8 2, .int .u32 0, .int .u16 0] 179)).drew ∧ Blk (wr.alloc (.cells #[.int .u32 p.t, .int .u64 p.b, .int .u8 2, .int .u32 0, .int .u16 0] 179)).drew g [.int .u32 p.t, .int .u64 p.b, .int .u8 2, .int .u32 0, .int .u16 0] 179) := ⟨below_drew ((Below.refl _ _).alloc (by omega) _), (Blk.new' hg.symm rfl).drew⟩
      generalize (l.take j).map itP = xs at HN HW
      clear hcl hbin hL1 hfit hw hb x2 x3
      go_wp2_with fail
      go_region
      rw [← hg]
      clear x0 x1 xa xb hg
      generalize World.drew (World.alloc wr _) = V at HV ⊢
      obtain ⟨x2, x3⟩ := HC.out V HV.out.1
      cases hx : p.x with
      | true =>
        rw [hx] at x2
        have hsz : g = wr.heap.size := HW.out.2
        have st4 : WI q W V (incU st.q) A j C xs := HW.out.1.below (by rw [← hsz]; exact HV.out.1)
        have m1 : V.cell? ⟨q, 1, none⟩ = some (.slice A j C) := st4.rc.cell 1
        have y0 : V.cell? ⟨g, 0, none⟩ = some (.int .u32 p.t) := HV.out.2.cell 0
        have y1 : V.cell? ⟨g, 1, none⟩ = some (.int .u64 p.b) := HV.out.2.cell 1
        have y2 : V.cell? ⟨g, 2, none⟩ = some (.int .u8 2) := HV.out.2.cell 2
        have y3 : V.cell? ⟨g, 3, none⟩ = some (.int .u32 0) := HV.out.2.cell 3
        have y4 : V.cell? ⟨g, 4, none⟩ = some (.int .u16 0) := HV.out.2.cell 4
        obtain ⟨a9, c9, w9, e9, o9, b9⟩ := app_item st4.ow ⟨p.t, p.b, 2, 0, 0⟩ (by omega) (by have := st4.rc.lt; omega)
        have rc9 := st4.rc.below b9 (by omega)
        have m5 := rc9.frozen 1
        have m4 : w9.cell? ⟨q, 1, none⟩ = some (.slice A j C) := rc9.cell 1
        have H9 : Hid (WI q W (w9.setCell ⟨q, 1, none⟩ (.slice a9 (j + 1) c9)) (incU st.q) a9 (j + 1) c9 ((l.take (j + 1)).map itP)) := by
          rw [HN.out, show itP p = ⟨p.t, p.b, 2, 0, 0⟩ by unfold itP; rw [if_pos hx]]
          exact st4.more o9 b9
        clear st4 o9 b9 rc9 hx hsz
        go_wp2_with (at_builtin; refine cwpList_append_run rfl _ _ 175 175 rfl _ _ rfl rfl _ _ e9 ?_; clear e9)
        exact ⟨⟨j + 1, a9, c9, by simp, by omega, H9.out⟩, by simp [intOf]; omega⟩
      | false =>
        rw [hx] at x2
        obtain ⟨E, hE⟩ : ∃ E : Nat, E = endsN p.d := ⟨_, rfl⟩
        obtain ⟨Z, hZ⟩ : ∃ Z, Z = crI 0 p.d := ⟨_, rfl⟩
        rw [← hE] at hwE HE
        rw [← hZ] at HS
        have HI : Hid (itP p = ⟨p.t, p.b, 1, Z, (E : Nat)⟩) := by rw [hE, hZ]; show _ = _; unfold itP; rw [if_neg (by rw [hx]; decide)]
        have f2 := HV.out.2.frozen 2
        have f3 := HV.out.2.frozen 3
        have f4 := HV.out.2.frozen 4
        have y2 : V.cell? ⟨g, 2, none⟩ = some (.int .u8 2) := HV.out.2.cell 2
        have y3 : V.cell? ⟨g, 3, none⟩ = some (.int .u32 0) := HV.out.2.cell 3
        have y4 : V.cell? ⟨g, 4, none⟩ = some (.int .u16 0) := HV.out.2.cell 4
        have hgb : g ≠ b := fun e => hbg e.symm
        have HB3 : Hid (Below g wr (((V.setCell ⟨g, 2, none⟩ (.int .u8 1)).setCell ⟨g, 3, none⟩ (.int .u32 Z)).setCell ⟨g, 4, none⟩ (.int .u16 (E : Nat))) ∧ Blk (((V.setCell ⟨g, 2, none⟩ (.int .u8 1)).setCell ⟨g, 3, none⟩ (.int .u32 Z)).setCell ⟨g, 4, none⟩ (.int .u16 (E : Nat))) g [.int .u32 p.t, .int .u64 p.b, .int .u8 1, .int .u32 Z, .int .u16 (E : Nat)] 179) := ⟨((HV.out.1.setCell (Nat.le_refl g) _).setCell (Nat.le_refl g) _).setCell (Nat.le_refl g) _, ((HV.out.2.set 2 _).set 3 _).set 4 _⟩
        clear hx hE hZ
        go_upto_region 9 with (first
          | (go_at_call 151; refine (HS.out _ (HV.out.1.setCell (Nat.le_refl g) _)).mono ?_; rintro e w5 ⟨rfl, rfl⟩)
          | (go_at_call 182; refine (HE.out _ ((HV.out.1.setCell (Nat.le_refl g) _).setCell (Nat.le_refl g) _)).mono ?_; rintro e w5 ⟨rfl, rfl⟩))
        clear f2 f3 f4 y2 y3 y4 x2 x3
        generalize World.setCell (World.setCell (World.setCell V _ _) _ _) _ _ = V3 at HB3 ⊢
        have hsz : g = wr.heap.size := HW.out.2
        have st4 : WI q W V3 (incU st.q) A j C xs := HW.out.1.below (by rw [← hsz]; exact HB3.out.1)
        have m1 : V3.cell? ⟨q, 1, none⟩ = some (.slice A j C) := st4.rc.cell 1
        have y0 : V3.cell? ⟨g, 0, none⟩ = some (.int .u32 p.t) := HB3.out.2.cell 0
        have y1 : V3.cell? ⟨g, 1, none⟩ = some (.int .u64 p.b) := HB3.out.2.cell 1
        have y2 : V3.cell? ⟨g, 2, none⟩ = some (.int .u8 1) := HB3.out.2.cell 2
        have y3 : V3.cell? ⟨g, 3, none⟩ = some (.int .u32 Z) := HB3.out.2.cell 3
        have y4 : V3.cell? ⟨g, 4, none⟩ = some (.int .u16 (E : Nat)) := HB3.out.2.cell 4
        obtain ⟨a9, c9, w9, e9, o9, b9⟩ := app_item st4.ow ⟨p.t, p.b, 1, Z, (E : Nat)⟩ (by omega) (by have := st4.rc.lt; omega)
        have rc9 := st4.rc.below b9 (by omega)
        have m5 := rc9.frozen 1
        have m4 : w9.cell? ⟨q, 1, none⟩ = some (.slice A j C) := rc9.cell 1
        have H9 : Hid (WI q W (w9.setCell ⟨q, 1, none⟩ (.slice a9 (j + 1) c9)) (incU st.q) a9 (j + 1) c9 ((l.take (j + 1)).map itP)) := by
          rw [HN.out, HI.out]
          exact st4.more o9 b9
        clear st4 o9 b9 rc9 hsz
        go_wp2_with (at_builtin; refine cwpList_append_run rfl _ _ 175 175 rfl _ _ rfl rfl _ _ e9 ?_; clear e9)
        exact ⟨⟨j + 1, a9, c9, by simp, by omega, H9.out⟩, by simp [intOf]; omega⟩
    · obtain rfl : j = n := by omega
      have HT : Hid (WI q W wr (incU st.q) A j C (l.map itP)) := by
        rw [List.take_of_length_le (by rw [H.out.2.1.1]; exact Nat.le_refl _)] at hw
        exact hw
      clear hw HP
      have hbw : Below W.heap.size W wr := by rw [← HR.out.2]; exact HT.out.bel
      have hv := H.out.1.under hbw
      have hits : ItsIn wr A j (l.map itP) := own_its HT.out.ow (by unfold maxLen; omega) (fun x hx => by
        obtain ⟨p, hp, rfl⟩ := List.mem_map.1 hx
        exact itP_fits (H.out.2.1.fits p hp) (PtsIn.len H.out.2.1 p hp))
      have r0 : wr.cell? ⟨q, 0, none⟩ = some (.int .u64 (incU st.q)) := HT.out.rc.cell 0
      have r1 : wr.cell? ⟨q, 1, none⟩ = some (.slice A j C) := HT.out.rc.cell 1
      obtain ⟨s0, _⟩ := hv.cells
      obtain ⟨_, _, d2, _⟩ := hv.dcells
      have HSv : Hid (SdV D M wr k st ∧ Out (SdO D M k) W wr) := ⟨hv, (Out.refl _ _).under hbw⟩
      have kc : ∀ Y, Below wr.heap.size wr Y → Y.cell? ⟨q, 0, none⟩ = some (.int .u64 (incU st.q)) ∧ Y.cell? ⟨q, 1, none⟩ = some (.slice A j C) ∧ Y.cell? ⟨k.ps, 0, none⟩ = some (.pointer (some ⟨k.pd, 0, none⟩)) ∧ Y.cell? ⟨k.pd, 2, none⟩ = some (.int .i64 st.s.b) := fun Y hY => ⟨(HT.out.below hY).rc.cell 0, (HT.out.below hY).rc.cell 1, (hv.under hY).cells.1, (hv.under hY).dcells.2.2.1⟩
      have HEn : Hid (∀ Y, Below wr.heap.size wr Y → Calls Tryz.prog 183 #[.agg #[.int .u64 (incU st.q), .slice A j C], .int .i64 st.s.b] Y fun e Z => ∃ av nv cv ev, e = .returned (.tuple #[.slice av nv cv, .int .i64 ev]) ∧ (BIn Z av nv (encB (incU st.q) (l.map itP) st.s.b) ∧ (av = none → nv = 0 ∧ cv = 0) ∧ Below wr.heap.size wr Z) ∧ Z.cell? ⟨q, 0, none⟩ = some (.int .u64 (incU st.q)) ∧ Z.cell? ⟨q, 1, none⟩ = some (.slice A j C) ∧ Z.cell? ⟨k.ps, 0, none⟩ = some (.pointer (some ⟨k.pd, 0, none⟩)) ∧ Z.cell? ⟨k.pd, 2, none⟩ = some (.int .i64 st.s.b)) := fun Y hY => by
        refine (dEncode_of (incU st.q) A j C (l.map itP) st.s.b Y (incU_fits _) (hits.below hY)).mono ?_
        rintro e Z ⟨av, nv, cv, rfl, ow, hZ⟩
        have hb := hY.trans (hZ.mono hY.size)
        have hnv : nv ≤ maxLen := by
          have h1 := ow.1
          have h2 := encB_len (incU st.q) (l.map itP) st.s.b
          simp [u8s] at h1
          unfold maxLen
          omega
        exact ⟨av, nv, cv, _, rfl, ⟨own_bin ow hnv (encB_fits _ _ _), own_nil ow, hb⟩, kc Z hb⟩
      clear hv hbw hits kc
      go_wp2_with fail
      go_region_held3 (fun Y => Y.cell? ⟨q, 0, none⟩ = some (.int .u64 (incU st.q)) ∧ Y.cell? ⟨q, 1, none⟩ = some (.slice A j C) ∧ Y.cell? ⟨k.ps, 0, none⟩ = some (.pointer (some ⟨k.pd, 0, none⟩)) ∧ Y.cell? ⟨k.pd, 2, none⟩ = some (.int .i64 st.s.b)) (first | exact ⟨r0, r1, s0, d2⟩ | exact ⟨e0, e1, e2, e3⟩)
        (first | (go_simp; go_at_call 183; refine (HEn.out _ (by exact (Below.refl _ _).drew)).mono ?_; rintro e Z ⟨av, nv, cv, ev, rfl, hZ, e0, e1, e2, e3⟩))
      have HZ : Hid (BIn Z av nv (encB (incU st.q) (l.map itP) st.s.b) ∧ (av = none → nv = 0 ∧ cv = 0) ∧ Below wr.heap.size wr Z) := hZ
      clear hZ e0 e1 e3 HEn r0 r1 s0 d2
      have HA : Hid (Calls Tryz.prog 101 #[.pointer (some ⟨k.pd, 0, none⟩), .int .i64 (z : Nat), .slice av nv cv] Z fun e w' => (∃ v, e = .returned v) ∧ Sd (SdO D M k) W k { st with zs := recZ st z l } w') := by
        have hvZ := HSv.out.1.under HZ.out.2.2
        refine (rAppend_of (z : Nat) av nv cv _ hvZ.dv hvZ.wf HZ.out.1 HZ.out.2.1 (by have h1 := HZ.out.1.1; have h2 := encB_len (incU st.q) (l.map itP) st.s.b; omega)).mono ?_
        rintro e w' ⟨rfl, hs⟩
        exact ⟨⟨_, rfl⟩, Sd.next (fun x hx => .inl hx) (HSv.out.2.under HZ.out.2.2) (hvZ.dvstep hs (hvZ.wf.app _ _))⟩
      go_upto_region 12 with (go_at_call 101; refine HA.out.mono ?_; rintro e W5 ⟨⟨v5, rfl⟩, sv5⟩)
      have H5 : Hid (Sd (SdO D M k) W k { st with zs := recZ st z l } W5) := sv5
      clear sv5 HA HZ HT HSv e2
      obtain ⟨D5, M5, hv5, hR5, ho5⟩ := H5.out
      obtain ⟨t0, t1, t2, t3, t4, t5⟩ := hv5.cells
      have f3 := hv5.hp.frozen 3
      have hwq := wrap_inc st.q
      have HV1 : Hid (Sd (SdO D M k) W k { st with zs := recZ st z l, q := incU st.q } (W5.setCell ⟨k.ps, 3, none⟩ (.int .u64 (incU st.q)))) := Sd.next hR5 ho5 (hv5.setP (q := incU st.q) (o := st.o) rfl (incU_fits _))
      clear hv5 hR5 ho5 H5
      simp only at t3 t4
      go_upto_region 13 with fail
      clear t0 t1 t2 t3 t4 t5 f3 hwq
      generalize World.setCell W5 _ _ = W6 at HV1 ⊢
      obtain ⟨D6, M6, hv6, hR6, ho6⟩ := HV1.out
      have hlaz : z < st.la.length := by have h1 := H.out.1.len.2; have h2 := H.out.2.2.2.2; omega
      obtain ⟨t0, t1, t2, t3, t4, t5⟩ := hv6.cells
      obtain ⟨old, y0⟩ : ∃ old, W6.cell? ⟨k.lb, z, none⟩ = some (.int .u64 old) := ⟨st.la[z], by rw [hv6.hl.cell]; simp [kInts, hlaz]⟩
      have yf := hv6.hl.frozen z
      have n1 : k.ps ≠ k.lb := (nodup5 hv6.ap).1.2.2.2
      have n2 : k.lb ≠ k.ps := fun e => n1 e.symm
      have HV2 : Hid (Sd (SdO D M k) W k { st with zs := recZ st z l, q := incU st.q, la := st.la.set z (incU st.q) } (W6.setCell ⟨k.lb, z, none⟩ (.int .u64 (incU st.q)))) := Sd.next hR6 ho6 (hv6.setLa z (incU st.q))
      clear hv6 hR6 ho6 HV1 t0 t1 t2 t5
      simp only at t3 t4
      go_region
      clear t3 t4 y0 yf n1 n2 hlaz
      have HV3 : Hid (Sd (SdO D M k) W k { st with q := incU st.q, la := st.la.set z (incU st.q), zs := (wrY st z l 0).1, S := (wrY st z l 0).2 } (W6.setCell ⟨k.lb, z, none⟩ (.int .u64 (incU st.q))).drew) := by rw [wrY_zero]; exact HV2.out.under (Below.refl _ _).drew
      clear HV2
      generalize World.drew (World.setCell W6 _ _) = W7 at HV3 ⊢
      clear W6 W5 hj
      go_wp2_with fail
      go_loopw [11] (fun x wr => ∃ i : Nat, x = .int .i64 i ∧ i ≤ j ∧ Sd (SdO D M k) W k { st with q := incU st.q, la := st.la.set z (incU st.q), zs := (wrY st z l i).1, S := (wrY st z l i).2 } wr ∧ (wrY st z l i).2.length ≤ st.S.length + i) (fun x _ => j - (intOf x).toNat)
      case atStart => exact ⟨0, rfl, Nat.zero_le _, HV3.out, by rw [wrY_zero]; exact Nat.le_refl _⟩
      case round =>
        obtain ⟨i, rfl, hi, ⟨Di, Mi, hvi, hRi, hoi⟩, hSl⟩ := hrel
        rcases Nat.lt_or_ge i j with hlt2 | hge2
        · have hi' : (i : Int) < j := by omega
          have hwi : IntKind.i64.wrap ((i : Int) + 1) = (i : Int) + 1 := by rw [IntKind.wrap_i64]; omega
          obtain ⟨p, b, off, hp, rfl, hb, A1, L1, C1, hcl, hbin, hnil1, hL1, hX1, hfit⟩ := (H.out.2.1.out hoi (fun x hx => (H.out.2.2.1 x hx).1)).at X hlt2
          have x0 : wr.cell? ⟨b, off + i * 4, none⟩ = some (.int .u32 p.t) := hcl 0 _ rfl
          have x1 : wr.cell? ⟨b, off + i * 4 + 1, none⟩ = some (.int .u64 p.b) := hcl 1 _ rfl
          have x2 : wr.cell? ⟨b, off + i * 4 + 2, none⟩ = some (.bool p.x) := hcl 2 _ rfl
          have x3 : wr.cell? ⟨b, off + i * 4 + 3, none⟩ = some (.slice A1 L1 C1) := hcl 3 _ rfl
          have hnb : ∀ x, X x → ¬ SdO Di Mi k x := fun x hx h => by
            rcases hRi x h with h | h
            · exact (H.out.2.2.1 x hx).1 h
            · have := (H.out.2.2.1 x hx).2; omega
          have HSl : Hid ((wrY st z l (i + 1)).2.length ≤ st.S.length + (i + 1)) := by
            show _ ≤ _
            rw [wrY_next hp]
            unfold oneP
            split
            · have := dropS_len (wrY st z l i).2 p.n; simp only; omega
            · have := putS_len hvi.mp.2 (p.n, appA st.s (wrY st z l i).1 z p.d); simp only at this ⊢; omega
          have HV : Hid (SdV Di Mi wr k { st with q := incU st.q, la := st.la.set z (incU st.q), zs := (wrY st z l i).1, S := (wrY st z l i).2 } ∧ (∀ x, SdO Di Mi k x → SdO D M k x ∨ W.heap.size ≤ x) ∧ Out (SdO D M k) W wr ∧ (wrY st z l i).2.length ≤ 10000 ∧ BIn wr A1 L1 p.d ∧ (A1 = none → L1 = 0 ∧ C1 = 0) ∧ L1 ≤ 10000 ∧ p.Fits ∧ l[i]? = some p ∧ (¬ SdO Di Mi k b) ∧ b < W.heap.size) := ⟨hvi, hRi, hoi, by have := H.out.2.2.2.1; omega, hbin, hnil1, hL1, hfit, hp, hnb b hb, (H.out.2.2.1 b hb).2⟩
          obtain ⟨s0, _, s2, _⟩ := hvi.cells
          clear hcl hbin hnil1 hL1 hX1 hfit hp hb hvi hRi hoi hnb hSl
          cases hx : p.x with
          | true =>
            rw [hx] at x2
            have HD : Hid (Calls Tryz.prog 184 #[.pointer (some ⟨k.pm, 0, none⟩), .int .u32 p.t, .int .u64 p.b] wr.drew fun e w' => (∃ v, e = .returned v) ∧ Sd (SdO D M k) W k { st with q := incU st.q, la := st.la.set z (incU st.q), zs := (wrY st z l (i + 1)).1, S := (wrY st z l (i + 1)).2 } w' ∧ w'.cell? ⟨k.ps, 2, none⟩ = some (.pointer (some ⟨k.pm, 0, none⟩)) ∧ w'.cell? ⟨b, off + i * 4, none⟩ = some (.int .u32 p.t) ∧ w'.cell? ⟨b, off + i * 4 + 1, none⟩ = some (.int .u64 p.b)) := by
              have hvd := HV.out.1.under (Below.refl _ _).drew
              refine (dmDrop_of k.pm _ p.n wr.drew hvd.mp.d HV.out.2.2.2.1).mono ?_
              rintro e w' ⟨rfl, h1, h2⟩
              have sv := hvd.mpstep h1 h2
              have hbm : ¬ b = k.pm := fun e => HV.out.2.2.2.2.2.2.2.2.2.1 (.inr (.inr (by rw [e]; exact .inr (.inr (.inr (.inl rfl))))))
              obtain ⟨D9, M9, hv9, hR9, ho9⟩ := sv
              refine ⟨⟨_, rfl⟩, ?_, hv9.cells.2.2.1, h2.cell x0 hbm, h2.cell x1 hbm⟩
              rw [wrY_next HV.out.2.2.2.2.2.2.2.2.1]
              unfold oneP
              rw [if_pos hx]
              exact Sd.next HV.out.2.1 (HV.out.2.2.1.under (Below.refl _ _).drew) ⟨D9, M9, hv9, hR9, ho9⟩
            clear hx
            go_wp2_with fail
            go_region_held3 (fun Y => Y.cell? ⟨k.ps, 2, none⟩ = some (.pointer (some ⟨k.pm, 0, none⟩)) ∧ Y.cell? ⟨b, off + i * 4, none⟩ = some (.int .u32 p.t) ∧ Y.cell? ⟨b, off + i * 4 + 1, none⟩ = some (.int .u64 p.b)) (first | exact ⟨s2, x0, x1⟩ | exact ⟨t2, z0, z1⟩)
              (first | (go_simp; go_at_call 184; refine HD.out.mono ?_; rintro e V9 ⟨⟨v9, rfl⟩, sv9, t2, z0, z1⟩))
            all_goals (
              have H9 : Hid (Sd (SdO D M k) W k { st with q := incU st.q, la := st.la.set z (incU st.q), zs := (wrY st z l (i + 1)).1, S := (wrY st z l (i + 1)).2 } V9) := sv9
              clear sv9 s2 s0 t2 z0 z1 x0 x1 x2 x3
              go_wp2
              go_roundw
              case rel => exact ⟨i + 1, by simp, by omega, H9.out, HSl.out⟩
              case measure => simp [intOf]; omega)
          | false =>
            rw [hx] at x2
            obtain ⟨aa, haa⟩ : ∃ aa, aa = appA st.s (wrY st z l i).1 z p.d := ⟨_, rfl⟩
            have HAA : Hid (aa = appA st.s (wrY st z l i).1 z p.d) := haa
            clear haa
            obtain ⟨g, hg⟩ : ∃ g, g = wr.heap.size := ⟨_, rfl⟩
            have HG : Hid (g = wr.heap.size ∧ b < g) := ⟨hg, by have := old_block x0; simp at this; rw [hg]; exact this⟩
            have HAp : Hid (∀ Y, Below wr.heap.size wr Y → Calls Tryz.prog 101 #[.pointer (some ⟨k.pd, 0, none⟩), .int .i64 (z : Nat), .slice A1 L1 C1] Y fun e Z => ∃ ev, e = .returned (.tuple #[.agg #[.int .i64 aa.1, .int .i64 aa.2], .int .i64 ev]) ∧ (Sd (SdO D M k) W k { st with q := incU st.q, la := st.la.set z (incU st.q), zs := appZ st.s (wrY st z l i).1 z p.d, S := (wrY st z l i).2 } Z ∧ g ≤ Z.heap.size ∧ Z.cell? ⟨b, off + i * 4, none⟩ = some (.int .u32 p.t) ∧ Z.cell? ⟨b, off + i * 4 + 1, none⟩ = some (.int .u64 p.b)) ∧ (∀ g' L t, g ≤ g' → Blk Y g' L t → Blk Z g' L t) ∧ Z.cell? ⟨k.ps, 0, none⟩ = some (.pointer (some ⟨k.pd, 0, none⟩)) ∧ Z.cell? ⟨b, off + i * 4 + 3, none⟩ = some (.slice A1 L1 C1) ∧ (∀ o, (Z.alloc o).cell? ⟨k.ps, 0, none⟩ = some (.pointer (some ⟨k.pd, 0, none⟩))) ∧ (∀ o, (Z.alloc o).cell? ⟨b, off + i * 4 + 3, none⟩ = some (.slice A1 L1 C1)) ∧ (∀ g', g ≤ g' → g' < Y.heap.size → ∀ u1 u2, Sd (SdO D M k) W k { st with q := incU st.q, la := st.la.set z (incU st.q), zs := appZ st.s (wrY st z l i).1 z p.d, S := (wrY st z l i).2 } ((Z.setCell ⟨g', 0, none⟩ u1).setCell ⟨g', 1, none⟩ u2))) := fun Y hY => by
              have hvd := HV.out.1.under hY
              refine (rAppend_of (z : Nat) A1 L1 C1 p.d hvd.dv hvd.wf (HV.out.2.2.2.2.1.below hY) HV.out.2.2.2.2.2.1 (by have := HV.out.2.2.2.2.2.2.1; omega)).mono ?_
              rintro e w' ⟨rfl, hs⟩
              have sv := hvd.dvstep hs (hvd.wf.app _ _)
              obtain ⟨D9, M9, hv9, hR9, ho9⟩ := sv
              have hnb := HV.out.2.2.2.2.2.2.2.2.2.1
              have hno : ∀ x, g ≤ x → ¬ SdO Di Mi k x := fun x hx h => by have := HV.out.1.all x h; omega
              have z0 := ho9.cell ((hY.cell (old_block x0)).trans x0) hnb
              have z1 := ho9.cell ((hY.cell (old_block x1)).trans x1) hnb
              have z3 := ho9.cell ((hY.cell (old_block x3)).trans x3) hnb
              have hs9 := ho9.size
              have hsY := hY.size
              refine ⟨_, by rw [HAA.out], ⟨Sd.next HV.out.2.1 (HV.out.2.2.1.under hY) ⟨D9, M9, hv9, hR9, ho9⟩, by omega, z0, z1⟩, fun g' L t hg' hb => ho9.blk hb (hno g' hg'), hv9.cells.1, z3, fun o => (hv9.hp.alloc o).cell 0, fun o => (((Below.refl _ _).alloc (Nat.le_refl _) o).cell (old_block z3)).trans z3, fun g' h1 h2 u1 u2 => ?_⟩
              have hn9 : ¬ SdO D9 M9 k g' := fun h => by
                rcases hR9 g' h with h | h
                · exact hno g' h1 h
                · omega
              have hWg : W.heap.size ≤ g' := by have e1 := HV.out.2.2.1.size; omega
              exact ⟨D9, M9, (hv9.poke hn9 0 u1).poke hn9 1 u2, fun x hx => by
                rcases hR9 x hx with h | h
                · exact HV.out.2.1 x h
                · have e1 := HV.out.2.2.1.size; exact .inr (by omega), (((HV.out.2.2.1.under hY).trans ho9 (fun j hj => HV.out.2.1 j hj)).setCell (p := ⟨g', 0, none⟩) (.inr hWg) u1).setCell (p := ⟨g', 1, none⟩) (.inr hWg) u2⟩
            have HPut : Hid (∀ (V7 : World) (ga : Nat), b < ga → g ≤ ga → Sd (SdO D M k) W k { st with q := incU st.q, la := st.la.set z (incU st.q), zs := appZ st.s (wrY st z l i).1 z p.d, S := (wrY st z l i).2 } V7 → V7.cell? ⟨b, off + i * 4, none⟩ = some (.int .u32 p.t) → V7.cell? ⟨b, off + i * 4 + 1, none⟩ = some (.int .u64 p.b) → Blk V7 ga [.int .i64 aa.1, .int .i64 aa.2] 60 → Calls Tryz.prog 105 #[.pointer (some ⟨k.pm, 0, none⟩), .agg #[.int .u32 p.t, .int .u64 p.b, .int .i64 aa.1, .int .i64 aa.2]] V7.drew fun e w' => (∃ v, e = .returned v) ∧ Sd (SdO D M k) W k { st with q := incU st.q, la := st.la.set z (incU st.q), zs := (wrY st z l (i + 1)).1, S := (wrY st z l (i + 1)).2 } w' ∧ w'.cell? ⟨k.ps, 2, none⟩ = some (.pointer (some ⟨k.pm, 0, none⟩)) ∧ w'.cell? ⟨b, off + i * 4, none⟩ = some (.int .u32 p.t) ∧ w'.cell? ⟨b, off + i * 4 + 1, none⟩ = some (.int .u64 p.b) ∧ w'.cell? ⟨ga, 0, none⟩ = some (.int .i64 aa.1) ∧ w'.cell? ⟨ga, 1, none⟩ = some (.int .i64 aa.2)) := by
              intro V7 ga hga hga2 sv q0 q1 ba
              obtain ⟨D7, M7, hv7, hR7, ho7⟩ := sv
              have hvd := hv7.under (Below.refl _ _).drew
              have hwi : z < (wrY st z l i).1.length := by have e1 := HV.out.1.wf.len; have e2 := H.out.1.wf.len; have := H.out.2.2.2.2; simp only at e1; omega
              refine (dmPut_of k.pm _ (p.n, aa) V7.drew hvd.mp.d ⟨⟨HV.out.2.2.2.2.2.2.2.1.1, HV.out.2.2.2.2.2.2.2.1.2.1⟩, by rw [HAA.out]; exact appA_fits HV.out.1.wf hwi _⟩ HV.out.2.2.2.1).mono ?_
              rintro e w' ⟨rfl, h1, h2⟩
              have sv := hvd.mpstep h1 h2
              have hpm : k.pm < g := by have := HV.out.1.mp.lt; have := HG.out.1; omega
              have hbm : ¬ b = k.pm := fun e => HV.out.2.2.2.2.2.2.2.2.2.1 (.inr (.inr (by rw [e]; exact .inr (.inr (.inr (.inl rfl))))))
              have bga := h2.blk ba.drew (show ¬ ga = k.pm by omega)
              obtain ⟨D9, M9, hv9, hR9, ho9⟩ := sv
              refine ⟨⟨_, rfl⟩, ?_, hv9.cells.2.2.1, h2.cell q0 hbm, h2.cell q1 hbm, bga.cell 0, bga.cell 1⟩
              rw [wrY_next HV.out.2.2.2.2.2.2.2.2.1]
              unfold oneP
              rw [if_neg (by rw [hx]; decide), ← HAA.out]
              exact Sd.next hR7 (ho7.under (Below.refl _ _).drew) ⟨D9, M9, hv9, hR9, ho9⟩
            have s0a : ∀ o, (wr.alloc o).cell? ⟨k.ps, 0, none⟩ = some (.pointer (some ⟨k.pd, 0, none⟩)) := fun o => (HV.out.1.hp.alloc o).cell 0
            have x3a : ∀ o, (wr.alloc o).cell? ⟨b, off + i * 4 + 3, none⟩ = some (.slice A1 L1 C1) := fun o => (((Below.refl _ _).alloc (Nat.le_refl _) o).cell (old_block x3)).trans x3
            clear hx
            have hsz : wr.heap.size = g := hg.symm
            clear hg
            go_wp2_with fail
            go_cut [12] (fun v X => ∃ ga, v = .pointer (some ⟨ga, 0, none⟩) ∧ b < ga ∧ g ≤ ga ∧ Sd (SdO D M k) W k { st with q := incU st.q, la := st.la.set z (incU st.q), zs := appZ st.s (wrY st z l i).1 z p.d, S := (wrY st z l i).2 } X ∧ X.cell? ⟨b, off + i * 4, none⟩ = some (.int .u32 p.t) ∧ X.cell? ⟨b, off + i * 4 + 1, none⟩ = some (.int .u64 p.b) ∧ Blk X ga [.int .i64 aa.1, .int .i64 aa.2] 60)
            case first =>
              go_region_law (first
                | (go_simp; go_at_call 101; refine (HAp.out _ (by first | exact (Below.refl _ _).drew | exact ((Below.refl _ _).alloc (Nat.le_refl _) _).drew | exact ((Below.refl _ _).alloc (Nat.le_refl _) _))).mono ?_; rintro e V6 ⟨ev, rfl, sv6, kp6, t0, z3, t0a, z3a, pk6⟩; try (have pA := pk6 g (Nat.le_refl _) (by simp [hsz]); have bA := kp6 g [.int .i64 0, .int .i64 0] 60 (Nat.le_refl _) (Blk.new' hsz rfl).drew; have m0 := bA.cell 0; have m1 := bA.cell 1; have m2 := bA.frozen 0; have m3 := bA.frozen 1; simp only [List.getElem?_cons_zero, List.getElem?_cons_succ] at m0 m1)))
              all_goals (
                have hbg := HG.out.2
                first
                | (
                  have P7 : Hid (Sd (SdO D M k) W k { st with q := incU st.q, la := st.la.set z (incU st.q), zs := appZ st.s (wrY st z l i).1 z p.d, S := (wrY st z l i).2 } ((V6.setCell ⟨g, 0, none⟩ (.int .i64 aa.1)).setCell ⟨g, 1, none⟩ (.int .i64 aa.2)) ∧ ((V6.setCell ⟨g, 0, none⟩ (.int .i64 aa.1)).setCell ⟨g, 1, none⟩ (.int .i64 aa.2)).cell? ⟨b, off + i * 4, none⟩ = some (.int .u32 p.t) ∧ ((V6.setCell ⟨g, 0, none⟩ (.int .i64 aa.1)).setCell ⟨g, 1, none⟩ (.int .i64 aa.2)).cell? ⟨b, off + i * 4 + 1, none⟩ = some (.int .u64 p.b) ∧ Blk ((V6.setCell ⟨g, 0, none⟩ (.int .i64 aa.1)).setCell ⟨g, 1, none⟩ (.int .i64 aa.2)) g [.int .i64 aa.1, .int .i64 aa.2] 60) := ⟨pA _ _, (out_one _ g 1 _).cell ((out_one V6 g 0 _).cell sv6.2.2.1 (by show ¬ b = g; omega)) (by show ¬ b = g; omega), (out_one _ g 1 _).cell ((out_one V6 g 0 _).cell sv6.2.2.2 (by show ¬ b = g; omega)) (by show ¬ b = g; omega), (bA.set 0 _).set 1 _⟩
                  generalize World.setCell (World.setCell V6 _ _) _ _ = V7 at P7 ⊢
                  clear pA bA m0 m1 m2 m3
                  go_wp2_with fail
                  go_meet
                  case rel => exact ⟨g, rfl, hbg, Nat.le_refl _, P7.out⟩)
                | (
                  have P7 : Hid (Sd (SdO D M k) W k { st with q := incU st.q, la := st.la.set z (incU st.q), zs := appZ st.s (wrY st z l i).1 z p.d, S := (wrY st z l i).2 } (V6.alloc (.cells #[.int .i64 aa.1, .int .i64 aa.2] 60)) ∧ (V6.alloc (.cells #[.int .i64 aa.1, .int .i64 aa.2] 60)).cell? ⟨b, off + i * 4, none⟩ = some (.int .u32 p.t) ∧ (V6.alloc (.cells #[.int .i64 aa.1, .int .i64 aa.2] 60)).cell? ⟨b, off + i * 4 + 1, none⟩ = some (.int .u64 p.b) ∧ Blk (V6.alloc (.cells #[.int .i64 aa.1, .int .i64 aa.2] 60)) V6.heap.size [.int .i64 aa.1, .int .i64 aa.2] 60) := ⟨sv6.1.under ((Below.refl _ _).alloc (Nat.le_refl _) _), (((Below.refl _ _).alloc (Nat.le_refl _) _).cell (old_block sv6.2.2.1)).trans sv6.2.2.1, (((Below.refl _ _).alloc (Nat.le_refl _) _).cell (old_block sv6.2.2.2)).trans sv6.2.2.2, Blk.new' rfl rfl⟩
                  have hg6 := sv6.2.1
                  generalize World.alloc V6 _ = V7 at P7 ⊢
                  generalize V6.heap.size = ga at P7 hg6 ⊢
                  go_wp2_with fail
                  go_meet
                  case rel => exact ⟨ga, rfl, by omega, hg6, P7.out⟩))
            case rest =>
            obtain ⟨ga, rfl, hga1, hga2, sv7, q0, q1, ba⟩ := hcut
            have HC := HPut.out wc ga hga1 hga2 sv7 q0 q1 ba
            have a0 : wc.cell? ⟨ga, 0, none⟩ = some (.int .i64 aa.1) := ba.cell 0
            have a1 : wc.cell? ⟨ga, 1, none⟩ = some (.int .i64 aa.2) := ba.cell 1
            obtain ⟨D7, M7, hv7, _, _⟩ := sv7
            obtain ⟨_, _, u2, _⟩ := hv7.cells
            clear hv7 s0 s2 s0a x3a hsz HAp HPut x0 x1 x2 x3 ba
            go_wp2_with fail
            go_region_held3 (fun Y => Y.cell? ⟨k.ps, 2, none⟩ = some (.pointer (some ⟨k.pm, 0, none⟩)) ∧ Y.cell? ⟨b, off + i * 4, none⟩ = some (.int .u32 p.t) ∧ Y.cell? ⟨b, off + i * 4 + 1, none⟩ = some (.int .u64 p.b) ∧ Y.cell? ⟨ga, 0, none⟩ = some (.int .i64 aa.1) ∧ Y.cell? ⟨ga, 1, none⟩ = some (.int .i64 aa.2)) (first | exact ⟨u2, q0, q1, a0, a1⟩ | exact ⟨t2, z0, z1, b0, b1⟩)
              (first | (go_simp; go_at_call 105; refine HC.mono ?_; rintro e V9 ⟨⟨v9, rfl⟩, sv9, t2, z0, z1, b0, b1⟩))
            have H9 : Hid (Sd (SdO D M k) W k { st with q := incU st.q, la := st.la.set z (incU st.q), zs := (wrY st z l (i + 1)).1, S := (wrY st z l (i + 1)).2 } V9) := sv9
            clear sv9 q0 q1 u2 t2 z0 z1 a0 a1 b0 b1 HC
            go_wp2
            go_roundw
            case rel => exact ⟨i + 1, by simp, by omega, H9.out, HSl.out⟩
            case measure => simp [intOf]; omega
        · obtain rfl : i = j := by omega
          have HF : Hid (Sd (SdO D M k) W k (recM st z l) wr) := by
            have hlen : l.length = i := H.out.2.1.1
            unfold recM
            rw [hlen, Int.toNat_natCast]
            exact ⟨Di, Mi, hvi, hRi, hoi⟩
          have HL : Hid ((recM st z l).S.length ≤ st.S.length + i) := by
            have hlen : l.length = i := H.out.2.1.1
            unfold recM
            rw [hlen]
            exact hSl
          clear hvi hRi hoi hSl
          go_wp2
          first | go_end0 | refine bodyPost_ret (results_none rfl _ _ _) rfl ?_
          exact ⟨rfl, HF.out, HL.out⟩
end
end Go.Proofs.YtfcbcpjcmihooaaGreat

/- What one call of Put of the document's store does. -/
namespace Go.Proofs.YtfcbcpjcmihooaaGreat
open Go.RowKit
set_option linter.unusedVariables false
set_option maxRecDepth 4000
def segN (w : World) (p : Nat) : Nat := match w.cell? ⟨p, 4, none⟩ with | some (.slice _ n _) => n | _ => 0
def segR (w : World) (p g : Nat) : List Int := (List.range (segN w p)).map (fun i => intOf ((w.cell? ⟨g, i, none⟩).getD (.bool false)))
theorem segR_of {w : World} {p g c : Nat} {s : Sh} {L : List Int} (h : SegR w p g c s L) : segR w p g = L := by
  have e : segN w p = L.length := by unfold segN; rw [h.c4]
  unfold segR
  rw [e]
  refine List.ext_getElem (by simp) (fun i h1 h2 => ?_)
  simp only [List.getElem_map, List.getElem_range]
  rw [h.at (by simpa using h1)]
  simp [intOf, List.getD, List.getElem?_eq_getElem h2]
theorem mu_le (L : List Int) : muZ L ≤ 2 * L.length := by
  unfold muZ cntZ
  have h1 : (listZ L 1).length ≤ L.length := listTo_length L 1 L.length
  have h2 : (listZ L 2).length ≤ L.length := listTo_length L 2 L.length
  omega
theorem putFstep (f : Nat) (st : St) (p : Pt) (l : List Pt) : putF (f + 1) st (p :: l) = if (openZ st.s st.zs (needP p) st.L).2.1 = true then putF f (writeM { st with L := (openZ st.s st.zs (needP p) st.L).2.2 } (openZ st.s st.zs (needP p) st.L).1 ((p :: l).take (frontN st (openZ st.s st.zs (needP p) st.L).1 (p :: l)))) ((p :: l).drop (frontN st (openZ st.s st.zs (needP p) st.L).1 (p :: l))) else (160, { st with L := (openZ st.s st.zs (needP p) st.L).2.2 }) := rfl
theorem putNo {f : Nat} {st : St} {p : Pt} {l : List Pt} (h : curB st.L = false) : putF (f + 1) st (p :: l) = (160, { st with L := curL st.L }) := by
  rw [putFstep, openZ_done (by rw [h]; simp), h, if_neg (by simp)]
theorem putFi {f : Nat} {st : St} {p : Pt} {l : List Pt} (h : curB st.L = true) (hr : roomZ st.s st.zs (curA st.L) < needP p) : putF (f + 1) { st with L := turnZ (curL st.L) (curA st.L) 2 3 } (p :: l) = putF (f + 1) st (p :: l) := by
  rw [putFstep, putFstep]
  simp only
  rw [openZ_more h hr]
  rfl
theorem putGo {f : Nat} {st : St} {p : Pt} {l : List Pt} (h : curB st.L = true) (hr : needP p ≤ roomZ st.s st.zs (curA st.L)) : putF (f + 1) st (p :: l) = putF f (writeM { st with L := curL st.L } (curA st.L) ((p :: l).take (frontN st (curA st.L) (p :: l)))) ((p :: l).drop (frontN st (curA st.L) (p :: l))) := by
  rw [putFstep, openZ_done (by omega), h, if_pos rfl]
theorem rec_write (st : St) (z : Int) (l : List Pt) : { recM st z l with L := fullL st.s (recM st z l).zs st.L z } = writeM st z l := rfl
section
variable {R : Nat → Prop} {V w : World} {k : Rs} {st : St}
theorem open_sd (h : Sd R V k st w) : Calls Tryz.prog 134 #[.pointer (some ⟨k.ps, 0, none⟩)] w fun e w' => e = .returned (.tuple #[.int .i64 (curA st.L), .bool (curB st.L)]) ∧ Sd R V k { st with L := curL st.L } w' := by
  obtain ⟨D, M, hv, hR, ho⟩ := h
  refine (dsopen_of hv).mono ?_
  rintro e w' ⟨rfl, sv⟩
  exact ⟨rfl, Sd.next hR ho sv⟩
theorem at_sd (z : Int) (h : Sd R V k st w) : Calls Tryz.prog 135 #[.pointer (some ⟨k.pd, 0, none⟩), .int .i64 z] w fun e w' => e = .returned (.tuple #[.int .i64 ((atZ st.zs z).1.length : Nat), .int .i64 (atZ st.zs z).2]) ∧ Sd R V k st w' := by
  obtain ⟨D, M, hv, hR, ho⟩ := h
  refine (rAt_of z hv.dv).mono ?_
  rintro e w' ⟨rfl, hb⟩
  exact ⟨rfl, D, M, hv.under hb, hR, ho.under hb⟩
theorem fill_sd (z : Int) (h : Sd R V k st w) : Calls Tryz.prog 136 #[.pointer (some ⟨k.pg, 0, none⟩), .int .i64 z] w fun e w' => (∃ v, e = .returned v) ∧ Sd R V k { st with L := turnZ st.L z 2 3 } w' := by
  obtain ⟨D, M, hv, hR, ho⟩ := h
  refine (dgFill_of k.pg k.gg k.gc st.s st.L z w hv.sg).mono ?_
  rintro e w' ⟨rfl, h1, h2⟩
  exact ⟨⟨_, rfl⟩, Sd.next hR ho (hv.sgstep h1 h2 (turnZ_length _ _ _ _))⟩
theorem many_sd (h : Sd R V k st w) (a : Option Addr) (n cc : Nat) (l : List Pt) (X : Nat → Prop) (r : Int) (hl : PtsIn X V a n l) (hX : ∀ x, X x → ¬ R x) (hr : 0 ≤ r ∧ r ≤ 10000) : Calls Tryz.prog 137 #[.pointer (some ⟨k.ps, 0, none⟩), .slice a n cc, .int .i64 r] w fun e w' => e = .returned (.int .i64 (frN l (roomI st.s.b).toNat (r - 1) : Nat)) ∧ w' = w := by
  obtain ⟨D, M, hv, hR, ho⟩ := h
  exact dsmany_of hv a n cc l X r (hl.out ho hX) hr
theorem record_sd (z : Nat) (h : Sd R V k st w) (hz : z < st.zs.length) (a : Option Addr) (n cc : Nat) (l : List Pt) (X : Nat → Prop) (hl : PtsIn X V a n l) (hX : ∀ x, X x → ¬ R x ∧ x < V.heap.size) (hS : st.S.length + n ≤ 10000) :
    Calls Tryz.prog 138 #[.pointer (some ⟨k.ps, 0, none⟩), .int .i64 (z : Nat), .slice a n cc] w fun e w' => e = .returned (.tuple #[]) ∧ Sd R V k (recM st z l) w' ∧ (recM st z l).S.length ≤ st.S.length + n := by
  obtain ⟨D, M, hv, hR, ho⟩ := h
  refine (dsrecord_of z hv hz a n cc l X (hl.out ho (fun x hx => (hX x hx).1)) (fun x hx => ⟨fun hs => ?_, ?_⟩) hS).mono ?_
  · rcases hR x hs with h | h
    · exact (hX x hx).1 h
    · have := (hX x hx).2; omega
  · have := (hX x hx).2; have := ho.size; omega
  · rintro e w' ⟨rfl, sv, hlen⟩
    exact ⟨rfl, Sd.next hR ho sv, hlen⟩
theorem Sd.cells (h : Sd R V k st w) : w.cell? ⟨k.ps, 0, none⟩ = some (.pointer (some ⟨k.pd, 0, none⟩)) ∧ w.cell? ⟨k.ps, 1, none⟩ = some (.pointer (some ⟨k.pg, 0, none⟩)) ∧ w.cell? ⟨k.pd, 1, none⟩ = some (.int .i64 st.s.zb) ∧ w.cell? ⟨k.pd, 2, none⟩ = some (.int .i64 st.s.b) := by
  obtain ⟨D, M, hv, hR, ho⟩ := h
  exact ⟨hv.cells.1, hv.cells.2.1, hv.dcells.2.1, hv.dcells.2.2.1⟩
theorem Sd.mu (h : Sd R V k st w) : muZ (segR w k.pg k.gg) = muZ st.L ∧ muZ st.L ≤ 512 := by
  obtain ⟨D, M, hv, hR, ho⟩ := h
  have h1 := mu_le st.L
  have h2 := hv.sg.len.2
  exact ⟨by rw [segR_of hv.sg], by omega⟩
theorem wrm_full {st : St} {z : Nat} {l : List Pt} (h : roomZ st.s (recM st z l).zs z = 0) : { recM st z l with L := turnZ st.L z 2 3 } = writeM st z l := by
  rw [← rec_write]
  unfold fullL
  rw [if_pos h]
theorem wrm_not {st : St} {z : Nat} {l : List Pt} (h : roomZ st.s (recM st z l).zs z ≠ 0) : recM st z l = writeM st z l := by
  rw [← rec_write]
  unfold fullL
  rw [if_neg h]
  rfl
set_option maxHeartbeats 4000000 in
theorem dsput_of {D M : Nat → Prop} {W : World} (h : SdV D M W k st) (a : Option Addr) (n cc : Nat) (l : List Pt) (X : Nat → Prop) (hl : PtsIn X W a n l) (hcc : n ≤ cc) (hX : ∀ x, X x → ¬ SdO D M k x ∧ x < W.heap.size) (hS : st.S.length + n ≤ 10000) :
    Calls Tryz.prog 81 #[.pointer (some ⟨k.ps, 0, none⟩), .slice a n cc] W fun e w' => e = .returned (.int .i64 (putM st l).1) ∧ Sd (SdO D M k) W k (putM st l).2 w' ∧ (putM st l).2.S.length ≤ st.S.length + n := by
  obtain ⟨s0, _⟩ := h.cells
  obtain ⟨_, _, d2, _⟩ := h.dcells
  have H : Hid (SdV D M W k st ∧ PtsIn X W a n l ∧ (∀ x, X x → ¬ SdO D M k x ∧ x < W.heap.size) ∧ st.S.length + n ≤ 10000) := ⟨h, hl, hX, hS⟩
  have hn1 := hl.2.1
  clear h hl hX hS
  go_enter Tryz.func81, Tryz.ntmps81
  go_wp2_with fail
  go_loopw [5] (fun x wr => ∃ j : Nat, x = .int .i64 j ∧ j ≤ n ∧ Below W.heap.size W wr ∧ ∀ i p, i < j → l[i]? = some p → p.x = true ∨ (p.d.length : Int) = st.s.b) (fun x _ => n - (intOf x).toNat)
  case atStart => exact ⟨0, rfl, Nat.zero_le _, Below.refl _ _, fun i p hi => by omega⟩
  case round =>
    obtain ⟨j, rfl, hj, hb, hok⟩ := hrel
    rcases Nat.lt_or_ge j n with hlt | hge
    · have hj' : (j : Int) < n := by omega
      have hwj : IntKind.i64.wrap ((j : Int) + 1) = (j : Int) + 1 := by rw [IntKind.wrap_i64]; omega
      obtain ⟨p, b, off, hp, rfl, hbx, A1, L1, C1, hcl, hbin, _⟩ := (H.out.2.1.below hb).at X hlt
      have x2 : wr.cell? ⟨b, off + j * 4 + 2, none⟩ = some (.bool p.x) := hcl 2 _ rfl
      have x3 : wr.cell? ⟨b, off + j * 4 + 3, none⟩ = some (.slice A1 L1 C1) := hcl 3 _ rfl
      have c0 : wr.cell? ⟨k.ps, 0, none⟩ = some (.pointer (some ⟨k.pd, 0, none⟩)) := (H.out.1.under hb).cells.1
      have c2 : wr.cell? ⟨k.pd, 2, none⟩ = some (.int .i64 st.s.b) := (H.out.1.under hb).dcells.2.2.1
      have hL : p.d.length = L1 := hbin.1
      have HN : Hid (∀ i q, i < j → l[i]? = some q → q.x = true ∨ (q.d.length : Int) = st.s.b) := hok
      have HBV : Hid (∀ m, Below W.heap.size W (wr.drewN m)) := fun m => Go.below_drewN hb m
      have HP : Hid (l[j]? = some p ∧ p.d.length = L1) := ⟨hp, hL⟩
      clear hcl hbin hp hok hb hL s0 d2
      cases hx : p.x with
      | true =>
        rw [hx] at x2
        go_wp2
        go_quiet (fail)
        go_wp2
        go_roundw
        case rel => exact ⟨j + 1, by simp, by omega, HBV.out _, fun i q hi hq => by
          rcases Nat.lt_or_ge i j with h | h
          · exact HN.out i q h hq
          · obtain rfl : i = j := by omega
            rw [HP.out.1] at hq
            cases hq
            exact .inl hx⟩
        case measure => simp [intOf]; omega
      | false =>
        rw [hx] at x2
        by_cases hLb : (L1 : Int) = st.s.b
        · have hLn : ((L1 : Int) != st.s.b) = false := by simp [hLb]
          have HLb : Hid ((L1 : Int) = st.s.b) := hLb
          clear hLb
          go_wp2
          go_quiet (fail)
          go_wp2
          go_roundw
          case rel => exact ⟨j + 1, by simp, by omega, HBV.out _, fun i q hi hq => by
            rcases Nat.lt_or_ge i j with h | h
            · exact HN.out i q h hq
            · obtain rfl : i = j := by omega
              rw [HP.out.1] at hq
              cases hq
              exact .inr (by rw [HP.out.2]; exact HLb.out)⟩
          case measure => simp [intOf]; omega
        · have hLn : ((L1 : Int) != st.s.b) = true := by simp [hLb]
          have HM : Hid (putM st l = (1, st)) := by
            show _ = _
            unfold putM
            rw [if_neg (fun ho => by
              have := ho p (List.mem_of_getElem? HP.out.1)
              rw [hx, HP.out.2] at this
              exact hLb (this.resolve_left (by decide)))]
          clear hLb
          go_wp2
          go_quiet (fail)
          go_wp2
          go_ret
          rw [HM.out]
          exact ⟨rfl, (Sd.start H.out.1).under (HBV.out _), Nat.le_add_right _ _⟩
    · obtain rfl : j = n := by omega
      have HO : Hid (okP st.s l ∧ Below W.heap.size W wr) := ⟨fun p hp => by
        obtain ⟨i, hi⟩ := List.getElem?_of_mem hp
        exact hok i p (by have := (List.getElem?_eq_some_iff.1 hi).1; rw [H.out.2.1.1] at this; exact this) hi, hb⟩
      clear hok hb s0 d2
      go_wp2_with fail
      go_loopw [1] (fun v wr => ∃ (l' : List Pt) (a' : Option Addr) (m cc' f : Nat) (st' : St), v = .slice a' m cc' ∧ m ≤ cc' ∧ PtsIn X W a' m l' ∧ st'.s = st.s ∧ l'.length ≤ f ∧ st'.S.length + m ≤ st.S.length + j ∧ Sd (SdO D M k) W k st' wr ∧ putF f st' l' = putF l.length st l) (fun v wr => lenOf v * 1000 + muZ (segR wr k.pg k.gg))
      case atStart => exact ⟨l, a, j, cc, l.length, st, rfl, hcc, H.out.2.1, rfl, Nat.le_refl _, Nat.le_refl _, (Sd.start H.out.1).under HO.out.2, rfl⟩
      case round =>
        obtain ⟨l', a', m, cc', f, st', rfl, hmc, hpts, hss, hlf, hcm, hsd, hput⟩ := hrel
        have HM : Hid (putM st l = putF f st' l') := by show _ = _; unfold putM; rw [if_pos HO.out.1, hput]
        have HMu : Hid (muZ (segR wr k.pg k.gg) = muZ st'.L) := by obtain ⟨D1, M1, hv1, _⟩ := hsd; show _ = _; rw [segR_of hv1.sg]
        cases l' with
        | nil =>
          have hm0 : m = 0 := hpts.1.symm
          subst hm0
          have HS : Hid (Sd (SdO D M k) W k st' wr) := hsd
          clear hsd hput hpts
          go_wp2
          go_ret
          rw [HM.out, putFnil]
          exact ⟨rfl, HS.out, hcm⟩
        | cons p r =>
          obtain ⟨f, rfl⟩ : ∃ f', f = f' + 1 := ⟨f - 1, by simp only [List.length_cons] at hlf; omega⟩
          have hm1 : m = r.length + 1 := hpts.1.symm
          have hm0 : 0 < m := by omega
          have hm0' : (0 : Int) < m := by omega
          obtain ⟨p', b, off, hp, rfl, hbx, A1, L1, C1, hcl, _⟩ := hpts.at X hm0
          simp only [List.getElem?_cons_zero, Option.some.injEq] at hp
          subst hp
          have HX2 : Hid (∀ w' stx, Sd (SdO D M k) W k stx w' → w'.cell? ⟨b, off + 2, none⟩ = some (.bool p.x)) := fun w' stx hs => by
            obtain ⟨_, _, _, _, ho⟩ := hs
            exact ho.cell (by simpa using hcl 2 _ rfl) (H.out.2.2.1 b hbx).1
          have HS1 : Hid (Sd (SdO D M k) W k st' wr) := hsd
          have HP : Hid (PtsIn X W (some ⟨b, off, none⟩) m (p :: r)) := hpts
          have HW : Hid (Wf st'.s st'.zs ∧ st'.L.length = st'.zs.length ∧ Good st'.S) := by obtain ⟨D1, M1, hv1, _⟩ := hsd; exact ⟨hv1.wf, hv1.len.1, hv1.mp.2⟩
          have HSS : Hid (st'.s = st.s ∧ m = r.length + 1 ∧ (p :: r).length ≤ f + 1) := ⟨hss, hm1, hlf⟩
          clear hcl hsd hput hpts hss hm1 hlf
          cases hcb : curB st'.L with
          | false =>
            have HF : Hid (putF (f + 1) st' (p :: r) = (160, { st' with L := curL st'.L })) := putNo hcb
            have HOp : Hid (Calls Tryz.prog 134 #[.pointer (some ⟨k.ps, 0, none⟩)] wr fun e w' => e = .returned (.tuple #[.int .i64 (curA st'.L), .bool false]) ∧ Sd (SdO D M k) W k { st' with L := curL st'.L } w') := by rw [← hcb]; exact open_sd HS1.out
            clear hcb
            go_wp2_with (go_at_call 134; refine HOp.out.mono ?_; rintro e w2 ⟨rfl, sv2⟩)
            go_ret
            rw [HM.out, HF.out]
            exact ⟨rfl, sv2, by show st'.S.length ≤ st.S.length + j; omega⟩
          | true =>
            obtain ⟨z, hz1, hz2, hz3, hz4⟩ := cur_in hcb
            have HZ : Hid (curA st'.L = (z : Nat) ∧ z < st'.zs.length ∧ z < st'.L.length ∧ curB st'.L = true) := ⟨hz1, by rw [← HW.out.2.1]; exact hz2, hz2, hcb⟩
            have HOp : Hid (Calls Tryz.prog 134 #[.pointer (some ⟨k.ps, 0, none⟩)] wr fun e w' => e = .returned (.tuple #[.int .i64 (z : Nat), .bool true]) ∧ Sd (SdO D M k) W k { st' with L := curL st'.L } w') := by rw [← hcb, ← hz1]; exact open_sd HS1.out
            obtain ⟨N, hN⟩ : ∃ N : Nat, N = (atZ st'.zs (z : Nat)).1.length := ⟨_, rfl⟩
            have HN : Hid (N = (atZ st'.zs (z : Nat)).1.length) := hN
            have hN1 : (N : Int) ≤ st'.s.zb := by rw [hN]; exact HW.out.1.at_le z
            have hzb := HW.out.1.right.2.2.2.1
            have hwr : IntKind.i64.wrap (st'.s.zb - (N : Int)) = st'.s.zb - (N : Int) := by rw [IntKind.wrap_i64]; omega
            have HA2 : Hid (∀ w' , Sd (SdO D M k) W k { st' with L := curL st'.L } w' → Calls Tryz.prog 135 #[.pointer (some ⟨k.pd, 0, none⟩), .int .i64 (z : Nat)] w' fun e w3 => ∃ dv, e = .returned (.tuple #[.int .i64 (N : Nat), .int .i64 dv]) ∧ Sd (SdO D M k) W k { st' with L := curL st'.L } w3) := fun w' hs => (at_sd (z : Nat) hs).mono (fun e w3 hh => ⟨_, by rw [hN]; exact hh.1, hh.2⟩)
            clear hz1 hz2 hz3 hz4 hN hcb
            obtain ⟨nd, hnd⟩ : ∃ nd : Int, nd = needP p := ⟨_, rfl⟩
            rcases Int.lt_or_le (st'.s.zb - (N : Int)) nd with hr | hr
            · have HF : Hid (putF (f + 1) { st' with L := turnZ (curL st'.L) (z : Nat) 2 3 } (p :: r) = putF (f + 1) st' (p :: r) ∧ muZ (turnZ (curL st'.L) (z : Nat) 2 3) + 1 = muZ st'.L) := by
                have e := HZ.out.1
                refine ⟨?_, ?_⟩
                · rw [← e]; exact putFi HZ.out.2.2.2 (by rw [e, ← hnd]; unfold roomZ; rw [← HN.out]; exact hr)
                · rw [← e]; exact cur_mu HZ.out.2.2.2
              have hnd' : nd = if p.x = true then 1 else 2 := hnd
              clear hnd
              cases hx : p.x
              all_goals (
                rw [hx] at hnd'
                simp only [if_true, Bool.false_eq_true, if_false] at hnd'
                subst hnd'
                simp only [hx] at HX2
                go_wp2_with (first
                  | (go_at_call 134; refine HOp.out.mono ?_; rintro e w2 ⟨rfl, sv2⟩; obtain ⟨s0, s1, d1, _⟩ := sv2.cells; have HS2 : Hid (Sd (SdO D M k) W k { st' with L := curL st'.L } w2) := sv2; clear sv2)
                  | (go_at_call 135; refine (HA2.out _ HS2.out).mono ?_; rintro e w3 ⟨dv, rfl, sv3⟩; clear s0 s1 d1; obtain ⟨s0, s1, d1, _⟩ := sv3.cells; have x2 := HX2.out _ _ sv3; have HS3 : Hid (Sd (SdO D M k) W k { st' with L := curL st'.L } w3) := sv3; clear sv3)
                  | (go_at_call 136; refine (fill_sd (z : Nat) HS3.out).mono ?_; rintro e w4 ⟨⟨v4, rfl⟩, sv4⟩; have HS4 : Hid (Sd (SdO D M k) W k { st' with L := turnZ (curL st'.L) (z : Nat) 2 3 } w4) := sv4; clear sv4))
                refine ⟨⟨p :: r, some ⟨b, off, none⟩, m, cc', f + 1, { st' with L := turnZ (curL st'.L) (z : Nat) 2 3 }, rfl, hmc, HP.out, HSS.out.1, HSS.out.2.2, hcm, HS4.out, ?_⟩, ?_⟩
                · rw [HF.out.1, ← HM.out]; unfold putM; rw [if_pos HO.out.1]
                · have e1 := HS4.out.mu.1
                  have e2 := HMu.out
                  have e3 := HF.out.2
                  rw [e1, e2]
                  simp only
                  omega)
            · obtain ⟨fn, hfn⟩ : ∃ fn, fn = frontN st' (z : Nat) (p :: r) := ⟨_, rfl⟩
              have hroom : roomZ st'.s st'.zs (z : Nat) = st'.s.zb - (N : Int) := by unfold roomZ; rw [← HN.out]
              have hf0 : 0 < fn := by rw [hfn]; exact front_pos HW.out.1.right (by rw [hroom, ← hnd]; exact hr)
              have hf1 : fn ≤ m := by rw [hfn, HSS.out.2.1]; exact (frN_le (p :: r) (roomI st'.s.b).toNat (roomZ st'.s st'.zs (z : Nat) - 1)).1
              have HFn : Hid (frN (p :: r) (roomI st'.s.b).toNat (st'.s.zb - (N : Int) - 1) = fn) := by show _ = _; rw [hfn]; unfold frontN; rw [hroom]
              have HF : Hid (putF (f + 1) st' (p :: r) = putF f (writeM { st' with L := curL st'.L } (z : Nat) ((p :: r).take fn)) ((p :: r).drop fn)) := by
                have e := HZ.out.1
                show _ = _
                rw [putGo HZ.out.2.2.2 (by rw [e, hroom, ← hnd]; exact hr), e, ← hfn]
              have HMa : Hid (∀ w', Sd (SdO D M k) W k { st' with L := curL st'.L } w' → Calls Tryz.prog 137 #[.pointer (some ⟨k.ps, 0, none⟩), .slice (some ⟨b, off, none⟩) m cc', .int .i64 (st'.s.zb - (N : Int))] w' fun e w3 => e = .returned (.int .i64 (fn : Nat)) ∧ w3 = w') := fun w' hs => by
                have := many_sd hs (some ⟨b, off, none⟩) m cc' (p :: r) X (st'.s.zb - (N : Int)) HP.out (fun x hx => (H.out.2.2.1 x hx).1) ⟨by omega, by omega⟩
                rw [show frN (p :: r) (roomI ({ st' with L := curL st'.L } : St).s.b).toNat (st'.s.zb - (N : Int) - 1) = fn from HFn.out] at this
                exact this
              obtain ⟨st3, hst3⟩ : ∃ st3, st3 = recM { st' with L := curL st'.L } (z : Nat) ((p :: r).take fn) := ⟨_, rfl⟩
              have HRec : Hid (∀ w', Sd (SdO D M k) W k { st' with L := curL st'.L } w' → Calls Tryz.prog 138 #[.pointer (some ⟨k.ps, 0, none⟩), .int .i64 (z : Nat), .slice (some ⟨b, off, none⟩) fn cc'] w' fun e w3 => e = .returned (.tuple #[]) ∧ Sd (SdO D M k) W k st3 w3 ∧ st3.S.length ≤ st'.S.length + fn) := fun w' hs => by
                rw [hst3]
                exact record_sd z hs HZ.out.2.1 (some ⟨b, off, none⟩) fn cc' ((p :: r).take fn) X (HP.out.front fn hf1) H.out.2.2.1 (by have := H.out.2.2.2; simp only; omega)
              obtain ⟨N3, hN3⟩ : ∃ N3 : Nat, N3 = (atZ st3.zs (z : Nat)).1.length := ⟨_, rfl⟩
              have HA3 : Hid (∀ w', Sd (SdO D M k) W k st3 w' → Calls Tryz.prog 135 #[.pointer (some ⟨k.pd, 0, none⟩), .int .i64 (z : Nat)] w' fun e w3 => ∃ dv, e = .returned (.tuple #[.int .i64 (N3 : Nat), .int .i64 dv]) ∧ Sd (SdO D M k) W k st3 w3) := fun w' hs => (at_sd (z : Nat) hs).mono (fun e w3 hh => ⟨_, by rw [hN3]; exact hh.1, hh.2⟩)
              have HR3 : Hid (roomZ st'.s st3.zs (z : Nat) = st'.s.zb - (N3 : Int)) := by show _ = _; unfold roomZ; rw [← hN3]
              have HW3 : Hid (st3 = recM { st' with L := curL st'.L } (z : Nat) ((p :: r).take fn)) := hst3
              have hz3 : st3.s = st'.s := by rw [hst3]; rfl
              have HL3 : Hid (st3.L = curL st'.L) := by rw [hst3]; exact rfl
              have hsf := pslice_front (some ⟨b, off, none⟩) m cc' fn (by omega)
              have hsb := pslice_back (some ⟨b, off, none⟩) m cc' fn hf1
              have HBk : Hid (PtsIn X W (kleft (some ⟨b, off, none⟩) cc' fn) (m - fn) ((p :: r).drop fn)) := HP.out.back fn hf1 hmc
              have HC3 : Hid (∀ w' , Sd (SdO D M k) W k st3 w' → w'.cell? ⟨k.ps, 0, none⟩ = some (.pointer (some ⟨k.pd, 0, none⟩)) ∧ w'.cell? ⟨k.ps, 1, none⟩ = some (.pointer (some ⟨k.pg, 0, none⟩)) ∧ w'.cell? ⟨k.pd, 1, none⟩ = some (.int .i64 st'.s.zb)) := fun w' hs => by obtain ⟨q0, q1, q2, _⟩ := hs.cells; rw [hz3] at q2; exact ⟨q0, q1, q2⟩
              clear hst3 hN3 hz3 hfn hroom
              have hnd' : nd = if p.x = true then 1 else 2 := hnd
              have hr' : ¬ st'.s.zb - (N : Int) < nd := by omega
              clear hnd hr hzb hN1
              have HEnd : Hid (∀ (st4 : St) (w4 : World), st4 = writeM { st' with L := curL st'.L } (z : Nat) ((p :: r).take fn) → Sd (SdO D M k) W k st4 w4 → st4.S.length ≤ st'.S.length + fn → (∃ (l' : List Pt) (a' : Option Addr) (m_1 cc'_1 f : Nat) (st'_1 : St), Value.slice (kleft (some ⟨b, off, none⟩) cc' fn) (m - fn) (cc' - fn) = .slice a' m_1 cc'_1 ∧ m_1 ≤ cc'_1 ∧ PtsIn X W a' m_1 l' ∧ st'_1.s = st.s ∧ l'.length ≤ f ∧ st'_1.S.length + m_1 ≤ st.S.length + j ∧ Sd (SdO D M k) W k st'_1 w4 ∧ putF f st'_1 l' = putF l.length st l) ∧ lenOf (Value.slice (kleft (some ⟨b, off, none⟩) cc' fn) (m - fn) (cc' - fn)) * 1000 + muZ (segR w4 k.pg k.gg) < lenOf (Value.slice (some ⟨b, off, none⟩) m cc') * 1000 + muZ (segR wr k.pg k.gg)) := by
                intro st4 w4 h4 sv4 hs4
                refine ⟨⟨(p :: r).drop fn, _, m - fn, cc' - fn, f, st4, rfl, by omega, HBk.out, by rw [h4]; exact HSS.out.1, ?_, by omega, sv4, ?_⟩, ?_⟩
                · have := HSS.out.2.2; simp only [List.length_drop, List.length_cons] at this ⊢; omega
                · rw [h4, ← HF.out, ← HM.out]; unfold putM; rw [if_pos HO.out.1]
                · have e1 := sv4.mu
                  simp only [lenOf]
                  omega
              clear hcm
              cases hx : p.x
              all_goals (
                rw [hx] at hnd'
                simp only [if_true, Bool.false_eq_true, if_false] at hnd'
                subst hnd'
                simp only [hx] at HX2
                by_cases hfull : (N3 : Int) = st'.s.zb
                all_goals (
                  go_wp2_with (first
                    | (go_at_call 134; refine HOp.out.mono ?_; rintro e w2 ⟨rfl, sv2⟩; obtain ⟨s0, s1, d1, _⟩ := sv2.cells; have HS2 : Hid (Sd (SdO D M k) W k { st' with L := curL st'.L } w2) := sv2; clear sv2 HOp)
                    | (go_at_call 135; refine (HA2.out _ HS2.out).mono ?_; rintro e w3 ⟨dv, rfl, sv3⟩; clear s0 s1 d1; obtain ⟨s0, s1, d1, _⟩ := sv3.cells; have x2 := HX2.out _ _ sv3; have HS3 : Hid (Sd (SdO D M k) W k { st' with L := curL st'.L } w3) := sv3; clear sv3 HA2 HS2)
                    | (go_at_call 137; refine (HMa.out _ HS3.out).mono ?_; rintro e w4 ⟨rfl, rfl⟩; clear HMa)
                    | (go_at_call 138; refine (HRec.out _ HS3.out).mono ?_; rintro e w5 ⟨rfl, sv5, hs5⟩; clear s0 s1 d1 x2; obtain ⟨s0, s1, d1⟩ := HC3.out _ sv5; have HS5 : Hid (Sd (SdO D M k) W k st3 w5 ∧ st3.S.length ≤ st'.S.length + fn) := ⟨sv5, hs5⟩; clear sv5 hs5 HRec HS3)
                    | (go_at_call 135; refine (HA3.out _ HS5.out.1).mono ?_; rintro e w6 ⟨dv6, rfl, sv6⟩; clear s0 s1 d1; obtain ⟨s0, s1, d1⟩ := HC3.out _ sv6; have HS6 : Hid (Sd (SdO D M k) W k st3 w6) := sv6; clear sv6 HA3)
                    | (go_at_call 136; refine (fill_sd (z : Nat) HS6.out).mono ?_; rintro e w7 ⟨⟨v7, rfl⟩, sv7⟩; have HS7 : Hid (Sd (SdO D M k) W k { st3 with L := turnZ st3.L (z : Nat) 2 3 } w7) := sv7; clear sv7))
                  first
                    | exact HEnd.out { st3 with L := turnZ st3.L (z : Nat) 2 3 } w7 (by rw [HL3.out]; have e := HW3.out; have e2 := HR3.out; rw [e] at e2 ⊢; exact wrm_full (st := { st' with L := curL st'.L }) (by rw [e2]; omega)) HS7.out HS5.out.2
                    | exact HEnd.out st3 w6 (by have e := HW3.out; have e2 := HR3.out; rw [e] at e2 ⊢; exact wrm_not (st := { st' with L := curL st'.L }) (by rw [e2]; omega)) HS6.out HS5.out.2))
end
end Go.Proofs.YtfcbcpjcmihooaaGreat

/- What one call of In does. -/
namespace Go.Proofs.YtfcbcpjcmihooaaGreat
open Go.RowKit Go.Sort Go.Lib Go.Shelf
set_option linter.unusedVariables false
set_option maxRecDepth 4000

theorem sortS_none (w : World) : Calls Tryz.prog 178 #[.slice none 0 0, .func (.func 179) #[] #[]] w fun e w' => e = .returned (.tuple #[]) ∧ w' = w := AnyF.slices_SortFunc_none Tryz.sortS none 0 _ w
/-- A sorted row of unlike pairs rises. -/
theorem sorted_up {xs : List Pr} {d' : Array Pr} (hp : PermIn 0 xs.toArray.size xs.toArray d') (hs : SortedIn (ltOf cfP) 0 xs.toArray.size d') (hn : xs.Nodup) : d'.toList.Perm xs ∧ d'.toList.Pairwise (fun x y => ltP x y = true) := by
  obtain ⟨h1, _, h3⟩ := hp
  have hsz : d'.size = xs.length := by simpa using h1
  have e1 : (d'.extract 0 xs.toArray.size).toList = d'.toList := by simp [← hsz]
  have e2 : (xs.toArray.extract 0 xs.toArray.size).toList = xs := by simp
  rw [e1, e2] at h3
  refine ⟨h3, ?_⟩
  have hnd : d'.toList.Nodup := h3.nodup_iff.2 hn
  rw [List.pairwise_iff_getElem]
  intro i j hi hj hij
  have := hs i j (Nat.zero_le _) hij (by simpa [hsz] using hj)
  rw [cfP_lt] at this
  have hi' : i < d'.size := by simpa using hi
  have hj' : j < d'.size := by simpa using hj
  rw [getElem!_pos d' i hi', getElem!_pos d' j hj'] at this
  have hne : d'[i] ≠ d'[j] := by
    have := List.pairwise_iff_getElem.1 hnd i j hi hj hij
    simpa using this
  simpa using ltP_total hne.symm this
def inL (S : List Pl) (ts : List Pr) : List Pl := ts.map (fun s => ((atS S s).getD (0, 0), s))
theorem inL_is {S : List Pl} (g : Good S) {z : Int} {xs ts : List Pr} (hm : ∀ s, s ∈ xs ↔ kS.ok s ∧ ∃ n, (n, s) ∈ S) (hp : ts.Perm (xs.filter (fun s => s.1 == z))) (hu : ts.Pairwise (fun x y => ltP x y = true)) : IsIn S z (inL S ts) := by
  refine ⟨by unfold inL; rw [List.pairwise_map]; exact hu, fun p => ?_⟩
  unfold inL
  rw [List.mem_map]
  have hts : ∀ s, s ∈ ts ↔ (kS.ok s ∧ ∃ n, (n, s) ∈ S) ∧ s.1 = z := fun s => by
    rw [hp.mem_iff, List.mem_filter, hm]; simp
  constructor
  · rintro ⟨s, hs, rfl⟩
    obtain ⟨⟨_, n, hn⟩, hz⟩ := (hts s).1 hs
    rw [(atS_some g).2 hn]
    exact ⟨hn, hz⟩
  · rintro ⟨h1, h2⟩
    refine ⟨p.2, (hts p.2).2 ⟨⟨fitsS_ok (g.fits p h1).2, p.1, h1⟩, h2⟩, ?_⟩
    rw [(atS_some g).2 (show (p.1, p.2) ∈ S from h1)]
    rfl
theorem inL_length (S : List Pl) (ts : List Pr) : (inL S ts).length = ts.length := by unfold inL; simp
theorem inL_spots (S : List Pl) (ts : List Pr) : (inL S ts).map (·.2) = ts := by unfold inL; simp [Function.comp_def]
/-- The spots of a zone that a range has met, in a row. -/
def InA (w : World) (z : Int) (b2 r c : Nat) (D : DataW Value) (v : Value) (wr : World) : Prop :=
  ∃ left cnt xs a cc, wr.ranges Tryz.prog 129 heldR b2 r c D left cnt ∧ Coll kS D left xs ∧ v = .slice a (xs.filter (fun s => s.1 == z)).length cc ∧ wr.ownsRow w.heap.size 129 2 (.slice a (xs.filter (fun s => s.1 == z)).length cc) (xs.filter (fun s => s.1 == z)).length (prC .i64 .i64 (xs.filter (fun s => s.1 == z))) ∧ RowKit.Below w.heap.size w wr ∧ xs.length + cnt ≤ c
def fZ (z : Int) (xs : List Pr) : List Pr := xs.filter (fun s => s.1 == z)
theorem fZ_yes {z : Int} {xs : List Pr} {x : Pr} (h : x.1 = z) : fZ z (xs ++ [x]) = fZ z xs ++ [x] := by unfold fZ; simp [List.filter_append, h]
theorem fZ_no {z : Int} {xs : List Pr} {x : Pr} (h : x.1 ≠ z) : fZ z (xs ++ [x]) = fZ z xs := by unfold fZ; simp [List.filter_append, h]
theorem fZ_le (z : Int) (xs : List Pr) : (fZ z xs).length ≤ xs.length := List.length_filter_le _ _
set_option maxHeartbeats 4000000 in
theorem mIn_of (p b1 b2 : Nat) (S : List Pl) (c : Nat) (z : Int) (w : World) (h : LmP w p b1 b2 S c) (hc : c < 100000) :
    Calls Tryz.prog 132 #[.pointer (some ⟨p, 0, none⟩), .int .i64 z] w fun e w' => ∃ L a n cc, e = .returned (.slice a n cc) ∧ IsIn S z L ∧ w'.ownsRow w.heap.size 62 4 (.slice a n cc) n (plC L) ∧ RowKit.Below w.heap.size w w' := by
  obtain ⟨D, hown, hD⟩ := h.m2
  have c1 := h.hp.cell 1
  simp only [List.getElem?_cons_zero, List.getElem?_cons_succ] at c1
  have HD : Hid (DIs kS D (fun s n => (n, s) ∈ S)) := hD
  have HG : Hid (LmP w p b1 b2 S c) := h
  have HN : Hid (Maps.size D ≤ c) := hown.size_le
  clear hD h
  go_enter Tryz.func132, Tryz.ntmps132
  go_wp2_with (first | (at_range; refine wpList_range_own _ rfl _ 120 rfl 129 124 okS.keyed Tryz.underlying120 _ b2 c D rfl hown ?_; intro w0 hrg0 hg0 hs0) | go_in)
  go_frame
  go_loopw [5, 6] (fun v _ wr => InA w z b2 w.heap.size c D v wr) (fun _ _ wr => wr.rangeLeft b2 w.heap.size)
  case atStart => exact ⟨_, _, [], none, 0, hrg0, Coll.start kS D, rfl, ⟨rfl, .inl ⟨rfl, rfl⟩⟩, (RowKit.Below.refl _ _).grown hg0 (Nat.le_refl _) (fun k hk => by cases hk), by have := HN.out; simpa using this⟩
  case round =>
    obtain ⟨left, cnt, xs, a, cc, hrg, hC, rfl, hO, hB, hle⟩ := hrel
    change wr.ownsRow w.heap.size 129 2 (.slice a (fZ z xs).length cc) (fZ z xs).length (prC .i64 .i64 (fZ z xs)) at hO
    change Code.wp _ _ _ { tmps := #[_, _, _, _, _, .slice a (fZ z xs).length cc, _, _, _, _, _, _, _, _, _, _, _, _, _, _, _, _, _, _, _, _, _, _, _, _, _, _, _, _, _, _, _, _, _, _, _, _, _, _, _, _, _, _, _, _, _, _], defers := _ } _
    have HC : Hid (Coll kS D left xs ∧ RowKit.Below w.heap.size w wr ∧ wr.ownsRow w.heap.size 129 2 (.slice a (fZ z xs).length cc) (fZ z xs).length (prC .i64 .i64 (fZ z xs))) := ⟨hC, hB, hO⟩
    have hfl := fZ_le z xs
    clear hC hB hO hrg0 hg0 hs0 c1
    go_wp2_with (first
      | (at_next; refine wpList_next_ranges _ rfl _ rfl 129 okS.keyed heldR (fun x : Pr => Value.agg #[.int .i64 x.1, .int .i64 x.2]) (fun v : Value => v) invKS invV b2 w.heap.size c _ _ _ rfl hrg ?_ ?_)
      | go_in)
    · intro _ hl0
      have HM : Hid (∀ s, s ∈ xs ↔ kS.ok s ∧ ∃ n, (n, s) ∈ S) := fun s => HC.out.1.all HD.out hl0 s
      have HNd : Hid ((fZ z xs).Nodup) := HC.out.1.1.filter _
      rcases HC.out.2.2.2 with ⟨hv, h0⟩ | ⟨g, cap, cur, hv, _⟩
      · obtain ⟨rfl, _, rfl⟩ : a = none ∧ (fZ z xs).length = 0 ∧ cc = 0 := by simpa using hv
        have C := sortS_none wr
        have hmk : (Instr.makeSlice 46 (.int .i64 0) (.int .i64 0)).run Tryz.prog wr = .ok (.slice (some ⟨wr.heap.size, 0, none⟩) 0 0) (wr.alloc (.cells #[] 62)) := run_places 0 (by omega) wr
        have hx0 : fZ z xs = [] := List.length_eq_zero_iff.1 h0
        have HI : Hid (IsIn S z []) := by
          have := inL_is (ts := []) HG.out.good HM.out (by show List.Perm [] (fZ z xs); rw [hx0]) .nil
          exact this
        rw [h0]
        have HO : Hid ((wr.alloc (.cells #[] 62)).ownsRow w.heap.size 62 4 (.slice (some ⟨wr.heap.size, 0, none⟩) 0 0) 0 (plC []) ∧ RowKit.Below w.heap.size w (wr.alloc (.cells #[] 62))) :=
          ⟨⟨rfl, .inr ⟨wr.heap.size, 0, #[], rfl, HC.out.2.1.size, by show (wr.heap.push _)[wr.heap.size]? = _; simp, Nat.le_refl _, Nat.zero_le _, rfl, rfl⟩⟩, HC.out.2.1.alloc HC.out.2.1.size _⟩
        clear HC HD HM HNd hx0 hrg hown hle h0
        go_wp2_with fail
        refine C.mono ?_
        rintro e w3 ⟨rfl, rfl⟩
        go_wp2
        refine wp_loop_rounds 1 ?_
        rw [rounds_succ]
        go_wp2
        go_ret
        exact ⟨[], _, _, _, rfl, HI.out, HO.out⟩
      · cases hv
        have C := sortS_of g cc (fZ z xs).toArray wr (own_holds HC.out.2.2).1 (own_holds HC.out.2.2).2 (by simp; omega)
        simp only [List.size_toArray] at C
        go_wp2_with fail
        refine C.mono ?_
        rintro e w3 ⟨rfl, d', n', os, hp, hs, rfl⟩
        obtain ⟨hperm, hup⟩ := sorted_up hp hs HNd.out
        obtain ⟨ts, rfl⟩ : ∃ ts : List Pr, d' = ts.toArray := ⟨d'.toList, by simp⟩
        have hperm : ts.Perm (fZ z xs) := hperm
        have hup : ts.Pairwise (fun x y => ltP x y = true) := hup
        have hlen : ts.length = (fZ z xs).length := hperm.length_eq
        have hI := inL_is (ts := ts) HG.out.good HM.out hperm hup
        have hO3 := sort_own (n := n') (os := os) HC.out.2.2 (ts := ts) hlen
        have hG3 := grownBy_sortedK (q0 := .i64) (q1 := .i64) (w := wr) (g := g) (n := n') (os := os) ts.toArray
        have hB3 := HC.out.2.1.grown hG3 HC.out.2.1.size (fun k hk => by cases hk; exact (HC.out.2.2.lt g rfl).1)
        generalize sortWorldK (prL .i64 .i64) 2 wr g 0 n' ts.toArray os = W at hO3 hG3 hB3 ⊢
        have hSl : (inL S ts).length ≤ c := by rw [inL_length]; omega
        have hLs := inL_spots S ts
        have hLl : (fZ z xs).length = (inL S ts).length := by rw [inL_length]; exact hlen.symm
        generalize inL S ts = L at hI hSl hLs hLl
        rw [← hLs] at hO3
        rw [hLl] at hO3 ⊢
        have HI : Hid (IsIn S z L) := hI
        have hmk := run_places L.length (by omega) W
        have HB : Hid (AllB w p b1 b2 S L c g W.heap.size 0 .i64 .i64 (·.2) (W.alloc (.cells (plC (List.replicate L.length pl0)).toArray 62))) := by
          have hbA : RowKit.Below W.heap.size W (W.alloc (.cells (plC (List.replicate L.length pl0)).toArray 62)) := (RowKit.Below.refl _ _).alloc (Nat.le_refl _) _
          refine ⟨(HG.out.below hB3).below hbA, fun i x hx => ?_, by simpa using Blk.new' rfl rfl, hB3.size, HG.out.hp.lt, ?_, below_on hB3 hbA⟩
          · have hx' : (L.map (·.2))[i]? = some x.2 := by rw [List.getElem?_map, hx]; rfl
            obtain ⟨d0, d1⟩ := pair_cells hO3 hx'
            exact ⟨(hbA.cell (old_block d0)).trans d0, (hbA.cell (old_block d1)).trans d1⟩
          · have := (hO3.lt g rfl).2; omega
        clear hp hs C hG3 hlen hI hLs hLl hperm hup hO3 hB3 HC HD HM HNd hown hrg hle hfl
        go_wp2_with fail
        generalize W.alloc (.cells (plC (List.replicate L.length pl0)).toArray 62) = Y at HB ⊢
        generalize W.heap.size = o at HB ⊢
        go_loopw [8, 9, 34] (fun _ _ i wr => ∃ k : Nat, k ≤ L.length ∧ i = .int .i64 k ∧ AllB w p b1 b2 S L c g o k .i64 .i64 (·.2) wr) (fun _ _ i _ => L.length - (intOf i).toNat)
        case atStart => exact ⟨0, by omega, rfl, HB.out⟩
        case round =>
          rename_i wr0
          obtain ⟨k, hk, rfl, hA⟩ := hrel
          by_cases hlt : k < L.length
          · have hlt' : (k : Int) < L.length := by omega
            obtain ⟨x, hx⟩ : ∃ x, L[k]? = some x := ⟨_, List.getElem?_eq_getElem hlt⟩
            obtain ⟨n0, n1⟩ := hA.nm k x hx
            have hxm : (x.1, x.2) ∈ S := ((HI.out.2 x).1 (List.mem_of_getElem? hx)).1
            have hget : atS S x.2 = some x.1 := (atS_some hA.lm.good).2 hxm
            have hf := hA.lm.good.fits x hxm
            have hV := hA.below ((RowKit.Below.refl _ _).alloc (Nat.le_refl _) (.cells #[.int .i64 x.2.1, .int .i64 x.2.2] 129))
            have m0 := hV.lm.hp.cell 1
            simp only [List.getElem?_cons_zero, List.getElem?_cons_succ] at m0
            have hl := hV.lm.drew.lookS1 hf.2
            have hl' := hV.lm.lookS1 hf.2
            rw [hget] at hl hl'
            simp only [Option.getD_some] at hl hl'
            have HA : Hid (AllB w p b1 b2 S L c g o k .i64 .i64 (·.2) wr) := hA
            have HV : Hid (AllB w p b1 b2 S L c g o k .i64 .i64 (·.2) (wr.alloc (.cells #[.int .i64 x.2.1, .int .i64 x.2.2] 129))) := hV
            have HX : Hid (L[k]? = some x) := hx
            have C := fun X => mPlace_of x.1 x.2 X
            clear hA hV hx hxm hget hf
            go_wp2_with fail
            have np : p ≠ o := by have h1 := HA.out.pl; have h2 := HA.out.le; omega
            have nq : wr.heap.size ≠ o := by have h1 := HA.out.ob.lt; omega
            have k1 : (wr.alloc (.cells #[.int .i64 x.2.1, .int .i64 x.2.2] 129)).cell? ⟨wr.heap.size, 0, none⟩ = some (.int .i64 x.2.1) := by go_simp
            have k2 : (wr.alloc (.cells #[.int .i64 x.2.1, .int .i64 x.2.2] 129)).cell? ⟨wr.heap.size, 1, none⟩ = some (.int .i64 x.2.2) := by go_simp
            go_region_held3 (fun X => X.cell? ⟨p, 1, none⟩ = some (.map (some b2)) ∧ X.cell? ⟨wr.heap.size, 0, none⟩ = some (.int .i64 x.2.1) ∧ X.cell? ⟨wr.heap.size, 1, none⟩ = some (.int .i64 x.2.2)) (first | exact ⟨m0, k1, k2⟩ | exact ⟨j0, j1, j2⟩ | exact ⟨kept_set (kept_set (kept_set (kept_set j0 np) np) np) np, kept_set (kept_set (kept_set (kept_set j1 nq) nq) nq) nq, kept_set (kept_set (kept_set (kept_set j2 nq) nq) nq) nq⟩)
              ((go_simp; go_at_call 66; refine (C _).mono ?_; rintro e w4 ⟨rfl, hb4⟩; have hb5 : RowKit.Below (wr.alloc (.cells #[.int .i64 x.2.1, .int .i64 x.2.2] 129)).heap.size (wr.alloc (.cells #[.int .i64 x.2.1, .int .i64 x.2.2] 129)) w4 := ⟨hb4.os, hb4.tape, hb4.output, hb4.size, hb4.block⟩; have j0 := (hb5.cell (old_block m0)).trans m0; have j1 := (hb5.cell (old_block k1)).trans k1; have j2 := (hb5.cell (old_block k2)).trans k2; have hA4 := HV.out.below hb5; have H4 : Hid (AllB w p b1 b2 S L c g o k .i64 .i64 (·.2) w4) := hA4; obtain ⟨⟨x0, x1, x2, x3⟩, y0, y1, y2, y3⟩ := hA4.room hlt; clear hA4 hb4 hb5))
            all_goals (
              have HS : Hid (AllB w p b1 b2 S L c g o (k + 1) .i64 .i64 (·.2) ((((w4.setCell ⟨o, k * 4, none⟩ (.int .u32 x.1.1)).setCell ⟨o, k * 4 + 1, none⟩ (.int .u64 x.1.2)).setCell ⟨o, k * 4 + 2, none⟩ (.int .i64 x.2.1)).setCell ⟨o, k * 4 + 3, none⟩ (.int .i64 x.2.2))) := H4.out.step HX.out
              clear x0 x1 x2 x3 y0 y1 y2 y3 j0 j1 j2 H4
              go_wp2
              go_roundw
              case rel => exact ⟨k + 1, by omega, by go_num, HS.out⟩
              case measure => simp [intOf]; omega)
          · have hge : (L.length : Int) ≤ k := by omega
            have hkn : k = L.length := by omega
            have HA : Hid (AllB w p b1 b2 S L c g o L.length .i64 .i64 (·.2) wr) := by rw [← hkn]; exact hA
            clear hA hkn
            go_wp2
            go_ret
            exact ⟨L, _, _, _, rfl, HI.out, HA.out.told (by omega), HA.out.bel⟩
    · intro xa xb v kl ya yb w2 cnt1 hkey hlx hv hat hrg1 hlt hg1 hs1 hen
      obtain ⟨hkx, rfl⟩ := keyS_of (x := (xa, xb)) hkey
      obtain ⟨hC, hB, hO⟩ := HC.out
      have hB2 := hB.grown hg1 hB.size (fun k hk => by cases hk; exact Nat.le_refl _)
      have hO2 := (hO.kept hg1 (.inr (fun e => (row_ne_iter hO hrg).2 e.symm))).alloc (.cells #[.int .i64 xa, .int .i64 xb] 129)
      have hr2 := hrg1.alloc (.cells #[.int .i64 xa, .int .i64 xb] 129)
      by_cases hz : xa = z
      · have hz' := hz.symm
        subst hz'
        obtain ⟨g', cc', W', hrun, hO3, hgr⟩ := app_pair (q0 := .i64) (q1 := .i64) Tryz.underlying229 Tryz.zero_spot rfl hO2 (z, xb) (by omega) (by have := hB2.size; simp; omega) (w2.heap.size + 1) (by simp)
        have hr3 := hr2.kept hgr (row_ne_iter hO2 hr2).1 (row_ne_iter hO2 hr2).2
        have hB3 : RowKit.Below w.heap.size w W' := (hB2.alloc hB2.size _).grown hgr (by have := hB2.size; simp; omega) (fun k hk => (hO2.lt k hk).1)
        have HA : Hid (InA w z b2 w.heap.size c D (.slice (some ⟨g', 0, none⟩) ((fZ z xs).length + 1) cc') W' ∧ W'.rangeLeft b2 w.heap.size < wr.rangeLeft b2 w.heap.size) := by
          refine ⟨⟨_, cnt1, xs ++ [(z, xb)], some ⟨g', 0, none⟩, cc', hr3, hC.step okS hkx hlx hat, ?_, ?_, hB3, by simp; omega⟩, ?_⟩
          · show _ = Value.slice _ (fZ z (xs ++ [(z, xb)])).length _
            rw [fZ_yes (x := (z, xb)) rfl]; simp
          · show W'.ownsRow _ _ _ (Value.slice _ (fZ z (xs ++ [(z, xb)])).length _) (fZ z (xs ++ [(z, xb)])).length (prC _ _ (fZ z (xs ++ [(z, xb)])))
            rw [fZ_yes (x := (z, xb)) rfl]; simpa using hO3
          · rw [hr3.left_eq, hrg.left_eq]; exact hlt
        clear hC hB hO hB2 hO2 hO3 hgr hr2 hr3 hB3 hkey hlx hv hat hrg1 hg1 hrg HC hs1
        go_wp2_with (first | (at_builtin; refine lwpList_append_run rfl _ _ 229 229 rfl _ _ rfl rfl _ _ hrun ?_) | go_in)
        go_roundw
        case rel => exact HA.out.1
        case measure => exact HA.out.2
      · have HA : Hid (InA w z b2 w.heap.size c D (.slice a (fZ z xs).length cc) (w2.alloc (.cells #[.int .i64 xa, .int .i64 xb] 129)) ∧ (w2.alloc (.cells #[.int .i64 xa, .int .i64 xb] 129)).rangeLeft b2 w.heap.size < wr.rangeLeft b2 w.heap.size) := by
          refine ⟨⟨_, cnt1, xs ++ [(xa, xb)], a, cc, hr2, hC.step okS hkx hlx hat, ?_, ?_, hB2.alloc hB2.size _, by simp; omega⟩, ?_⟩
          · show _ = Value.slice _ (fZ z (xs ++ [(xa, xb)])).length _
            rw [fZ_no (x := (xa, xb)) hz]
          · show World.ownsRow _ _ _ _ (Value.slice _ (fZ z (xs ++ [(xa, xb)])).length _) (fZ z (xs ++ [(xa, xb)])).length (prC _ _ (fZ z (xs ++ [(xa, xb)])))
            rw [fZ_no (x := (xa, xb)) hz]; exact hO2
          · rw [hr2.left_eq, hrg.left_eq]; exact hlt
        clear hC hB hO hB2 hO2 hr2 hkey hlx hv hat hrg1 hg1 hrg HC hs1
        go_wp2
        go_roundw
        case rel => exact HA.out.1
        case measure => exact HA.out.2
end Go.Proofs.YtfcbcpjcmihooaaGreat
