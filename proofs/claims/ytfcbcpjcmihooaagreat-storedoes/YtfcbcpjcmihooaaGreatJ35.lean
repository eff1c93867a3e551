/- Texts of this seat, one behind the other: StDe, ZRZn, StSa, StIv. -/
import Derived.Test.YtfcbcpjcmihooaaGreatJ34
import Derived.Deep.RegionHeld3
import Derived.Test.YtfcbcpjcmihooaaGreatJ20
import Derived.Test.YtfcbcpjcmihooaaGreatJ30
import Derived.Test.YtfcbcpjcmihooaaGreatJ32
import Derived.Test.YtfcbcpjcmihooaaGreatJ12
import Derived.Lib.QuietBelow
import Derived.BigQuiet
import Derived.Test.YtfcbcpjcmihooaaGreatJ23
/- What one call of does (a call on both stores) does. -/
namespace Go.Proofs.YtfcbcpjcmihooaaGreat
open Go.RowKit
set_option linter.unusedVariables false
set_option maxRecDepth 4000
/-- What a call makes of a store. -/
noncomputable def doM (st : St) (o : Od) : St := if o.k % 8 = 5 then flushM st else if o.k % 8 = 6 then (markM st).2 else if o.k % 8 = 7 then clearM st o.z else (putM st (o.l.map (blkP st.s.b.toNat))).2
section
variable {B : Nat} {W w : World} {ps rs : Nat} {st : St} {m : Nat}
theorem Bo.rcells (h : Bo B W ps rs st m w) : ∃ pd, w.cell? ⟨rs, 0, none⟩ = some (.pointer (some ⟨pd, 0, none⟩)) ∧ w.cell? ⟨pd, 2, none⟩ = some (.int .i64 st.s.b) := by
  obtain ⟨D, k, D', M', k', h1, h2, h3, h4, h5, h6, h7, h8, h9⟩ := h
  exact ⟨k'.pd, by rw [← h2]; exact h4.cells.1, h4.dcells.2.2.1⟩
theorem clear_bo2 (z : Int) {w2 : World} (h : Bo B W ps rs st m w) (hb : Below w.heap.size w w2) (hm : m ≤ 10000) : Calls Tryz.prog 80 #[.pointer (some ⟨ps, 0, none⟩), .int .i64 z] w2 fun e w1 => e = .returned (.bool (decide (clearOk st z))) ∧ (∀ g L t, w.heap.size ≤ g → Blk w2 g L t → Blk w1 g L t) ∧ Calls Tryz.prog 84 #[.pointer (some ⟨rs, 0, none⟩), .int .i64 z] w1 fun e w3 => e = .returned (.bool (decide (clearOk st z))) ∧ (∀ g L t, w.heap.size ≤ g → Blk w1 g L t → Blk w3 g L t) ∧ Bo B W ps rs (clearM st z) m w3 := by
  obtain ⟨D, k, D', M', k', h1, h2, h3, h4, h5, h6, h7, h8, h9⟩ := h
  have hB : B ≤ w.heap.size := by have e := h5 k.ps (.inr (.inl rfl)); have e2 := h3.hp.lt; omega
  have e := sclear_of z (h3.under hb) (by omega)
  rw [h1] at e
  refine e.mono ?_
  rintro e w1 ⟨rfl, sv⟩
  have hs := fun w2' => Bo.step (w2 := w2') h1 h2 (h3.under hb) (h4.under hb) h5 h6 h7 (h8.trans (hb.mono hB)) sv
  obtain ⟨D1, hv1, hD1, ho1⟩ := sv
  refine ⟨rfl, fun g L t hg hk => ho1.blk hk (fun hx => by have := h3.all g hx; omega), ?_⟩
  have e := dsclear_of z (hs w1).1 (by omega)
  rw [h2] at e
  refine e.mono ?_
  rintro e w3 ⟨rfl, sd⟩
  refine ⟨rfl, fun g L t hg hk => ?_, (hs w3).2 sd (by rw [clearM_S]; exact h9)⟩
  obtain ⟨D2, M2, hv2, hR2, ho2⟩ := sd
  exact ho2.blk hk (fun hx => by have := h4.all g hx; omega)
theorem put_bo2 {w2 : World} (h : Bo B W ps rs st m w) (hb : Below w.heap.size w w2) (a : Option Addr) (n cc : Nat) (l : List Pt) (X : Nat → Prop) (hl : PtsIn X w2 a n l) (hcc : n ≤ cc) (hX : ∀ x, X x → (x < B ∨ w.heap.size ≤ x) ∧ x < w2.heap.size) (hm : m + n ≤ 10000) : Calls Tryz.prog 20 #[.pointer (some ⟨ps, 0, none⟩), .slice a n cc] w2 fun e w1 => e = .returned (.int .u16 (putM st l).1) ∧ Calls Tryz.prog 81 #[.pointer (some ⟨rs, 0, none⟩), .slice a n cc] w1 fun e w3 => e = .returned (.int .i64 (putM st l).1) ∧ Bo B W ps rs (putM st l).2 (m + n) w3 := by
  obtain ⟨D, k, D', M', k', h1, h2, h3, h4, h5, h6, h7, h8, h9⟩ := h
  have hB : B ≤ w.heap.size := by have e := h5 k.ps (.inr (.inl rfl)); have e2 := h3.hp.lt; omega
  have x1 : ∀ x, X x → ¬ StO D k x := fun x hx hs => by have e1 := h5 x hs; have e2 := h3.all x hs; have := hX x hx; omega
  have x2 : ∀ x, X x → ¬ SdO D' M' k' x := fun x hx hs => by have e1 := h6 x hs; have e2 := h4.all x hs; have := hX x hx; omega
  have e := sput_of (h3.under hb) a n cc l X hl hcc (fun x h => ⟨x1 x h, (hX x h).2⟩) (by omega)
  rw [h1] at e
  refine e.mono ?_
  rintro e w1 ⟨rfl, sv⟩
  have hs := fun w2' => Bo.step (w2 := w2') h1 h2 (h3.under hb) (h4.under hb) h5 h6 h7 (h8.trans (hb.mono hB)) sv
  refine ⟨rfl, ?_⟩
  obtain ⟨D1, hv1, hD1, ho1⟩ := sv
  have e := dsput_of (hs w1).1 a n cc l X (hl.out ho1 x1) hcc (fun x h => ⟨x2 x h, by have := (hX x h).2; have := ho1.size; omega⟩) (by omega)
  rw [h2] at e
  refine e.mono ?_
  rintro e w3 ⟨rfl, sd, hlen⟩
  exact ⟨rfl, (hs w3).2 sd (by omega)⟩
theorem svE_small (s : Sh) (o : Int) (S : List Pl) : 0 ≤ svE s o S ∧ svE s o S ≤ 1000 := by
  unfold svE ckE
  repeat' split
  all_goals omega
theorem putSmall : ∀ (f : Nat) (st : St) (l : List Pt), 0 ≤ (putF f st l).1 ∧ (putF f st l).1 ≤ 1000
  | 0, st, l => by unfold putF; simp
  | f + 1, st, [] => by unfold putF; simp
  | f + 1, st, p :: l => by
    rw [putFstep]
    split
    · exact putSmall f _ _
    · simp
theorem putM_small (st : St) (l : List Pt) : 0 ≤ (putM st l).1 ∧ (putM st l).1 ≤ 1000 := by
  unfold putM
  split
  · exact putSmall _ _ _
  · simp
set_option maxHeartbeats 4000000 in
theorem does_of (h : Bo B W ps rs st m w) (ho : st.o = 0 ∨ st.o = 1) (hr : RightS st.s) (o : Od) (A : Option Addr) (N C : Nat) (hl : PtsIn (fun x => x < B) w A N o.l) (hk : Fits8 o.k) (hm : m + N ≤ 10000) :
    Calls Tryz.prog 48 #[.pointer (some ⟨ps, 0, none⟩), .pointer (some ⟨rs, 0, none⟩), .agg #[.int .u8 o.k, .slice A N C, .int .i64 o.z]] w fun e w' => e = .returned (.bool true) ∧ Bo B W ps rs (doM st o) (m + N) w' := by
  obtain ⟨q, hq⟩ : ∃ q, q = w.heap.size := ⟨_, rfl⟩
  have hb0 : Below w.heap.size w (w.alloc (.cells #[.int .u8 o.k, .slice A N C, .int .i64 o.z] 34)) := (Below.refl _ _).alloc (Nat.le_refl _) _
  have HV : Hid (Bo B W ps rs st m (w.alloc (.cells #[.int .u8 o.k, .slice A N C, .int .i64 o.z] 34)) ∧ Blk (w.alloc (.cells #[.int .u8 o.k, .slice A N C, .int .i64 o.z] 34)) q [.int .u8 o.k, .slice A N C, .int .i64 o.z] 34 ∧ PtsIn (fun x => x < B) (w.alloc (.cells #[.int .u8 o.k, .slice A N C, .int .i64 o.z] 34)) A N o.l) := ⟨h.under hb0, Blk.new' hq.symm rfl, hl.below hb0⟩
  have hkw : 0 ≤ o.k ∧ o.k < 256 := hk
  have hmono : ∀ st2 w2, Bo B W ps rs st2 m w2 → Bo B W ps rs st2 (m + N) w2 := fun st2 w2 hb => by
    obtain ⟨D, k, D', M', k', h1, h2, h3, h4, h5, h6, h7, h8, h9⟩ := hb
    exact ⟨D, k, D', M', k', h1, h2, h3.mono (by omega), h4, h5, h6, h7, h8, by omega⟩
  have HMo : Hid (∀ st2 w2, Bo B W ps rs st2 m w2 → Bo B W ps rs st2 (m + N) w2) := hmono
  have H0 : Bo B W ps rs st m w ∧ PtsIn (fun x => x < B) w A N o.l ∧ q = w.heap.size ∧ Below w.heap.size w (w.alloc (.cells #[.int .u8 o.k, .slice A N C, .int .i64 o.z] 34)) := ⟨h, hl, hq, hb0⟩
  have HH : Hid (Bo B W ps rs st m w ∧ PtsIn (fun x => x < B) w A N o.l ∧ q = w.heap.size ∧ Below w.heap.size w (w.alloc (.cells #[.int .u8 o.k, .slice A N C, .int .i64 o.z] 34))) := H0
  clear h hl hb0 hmono H0
  go_enter Tryz.func48, Tryz.ntmps48
  by_cases k5 : o.k % 8 = 5
  · have e5 : (o.k % 8 == 5) = true := by simp [k5]
    have HD : Hid (doM st o = flushM st) := by show _ = _; unfold doM; rw [if_pos k5]
    have HF := flush_bo HV.out.1
    clear k5
    go_wp2_with (first
      | (go_at_call 78; refine HF.mono ?_; rintro e w2 ⟨⟨v2, rfl⟩, h2⟩; clear HF)
      | (go_at_call 82; refine h2.mono ?_; rintro e w3 ⟨⟨v3, rfl⟩, h3⟩))
    go_ret
    rw [HD.out]
    exact ⟨rfl, HMo.out _ _ h3⟩
  · have e5 : (o.k % 8 == 5) = false := by simp [k5]
    by_cases k6 : o.k % 8 = 6
    · have e6 : (o.k % 8 == 6) = true := by simp [k6]
      have HD : Hid (doM st o = (markM st).2) := by show _ = _; unfold doM; rw [if_neg k5, if_pos k6]
      have hE : IntKind.i64.wrap (markM st).1 = (markM st).1 := by have := svE_small st.s (1 - st.o) st.S; rw [IntKind.wrap_i64]; unfold markM; simp only; omega
      have HF := mark_bo HV.out.1 (by omega) ho
      generalize (markM st).1 = E at HF hE
      clear k5 k6
      go_wp2_with (first
        | (go_at_call 79; refine HF.mono ?_; rintro e w2 ⟨rfl, h2⟩; clear HF)
        | (go_at_call 83; refine h2.mono ?_; rintro e w3 ⟨rfl, h3⟩))
      go_ret
      rw [HD.out]
      exact ⟨by simp, HMo.out _ _ h3⟩
    · have e6 : (o.k % 8 == 6) = false := by simp [k6]
      by_cases k7 : o.k % 8 = 7
      · have e7 : (o.k % 8 == 7) = true := by simp [k7]
        have HD : Hid (doM st o = clearM st o.z) := by show _ = _; unfold doM; rw [if_neg k5, if_neg k6, if_pos k7]
        clear k5 k6 k7
        go_wp2_with fail
        rw [← hq]
        have HC : Hid (∀ Y, Below w.heap.size w Y → Blk Y q [.int .u8 o.k, .slice A N C, .int .i64 o.z] 34 → Calls Tryz.prog 80 #[.pointer (some ⟨ps, 0, none⟩), .int .i64 o.z] Y fun e w1 => e = .returned (.bool (decide (clearOk st o.z))) ∧ Calls Tryz.prog 84 #[.pointer (some ⟨rs, 0, none⟩), .int .i64 o.z] w1 (fun e w3 => e = .returned (.bool (decide (clearOk st o.z))) ∧ Bo B W ps rs (clearM st o.z) m w3 ∧ w3.cell? ⟨q, 2, none⟩ = some (.int .i64 o.z)) ∧ w1.cell? ⟨q, 2, none⟩ = some (.int .i64 o.z)) := fun Y hY hk => by
          refine (clear_bo2 o.z HH.out.1 hY (by omega)).mono ?_
          rintro e w1 ⟨rfl, f1, hc⟩
          have hq' := HH.out.2.2.1
          have b1 := f1 q _ _ (by omega) hk
          refine ⟨rfl, hc.mono ?_, b1.cell 2⟩
          rintro e w3 ⟨rfl, f3, hbo⟩
          exact ⟨rfl, hbo, (f3 q _ _ (by omega) b1).cell 2⟩
        have HV2 : Hid (Below w.heap.size w (w.alloc (.cells #[.int .u8 o.k, .slice A N C, .int .i64 o.z] 34)) ∧ Blk (w.alloc (.cells #[.int .u8 o.k, .slice A N C, .int .i64 o.z] 34)) q [.int .u8 o.k, .slice A N C, .int .i64 o.z] 34) := ⟨HH.out.2.2.2, HV.out.2.1⟩
        clear HV hq HH
        generalize World.alloc w _ = V at HV2 ⊢
        have y2 : V.cell? ⟨q, 2, none⟩ = some (.int .i64 o.z) := HV2.out.2.cell 2
        have HC2 := HC.out V.drew (HV2.out.1.drew) HV2.out.2.drew
        generalize decide (clearOk st o.z) = bb at HC2
        go_region_held3 (fun Y => Y.cell? ⟨q, 2, none⟩ = some (.int .i64 o.z)) (first | exact y2 | exact z2 | exact z3)
          (first
          | (go_simp; go_at_call 80; refine HC2.mono ?_; rintro e Y ⟨rfl, hd, z2⟩)
          | (go_simp; go_at_call 84; refine hd.mono ?_; rintro e Z ⟨rfl, hbo, z3⟩))
        have HB : Hid (Bo B W ps rs (clearM st o.z) m Z) := hbo
        clear hbo z2 z3 y2 HC2
        go_wp2
        go_ret
        rw [HD.out]
        exact ⟨by simp, HMo.out _ _ HB.out⟩
      · have e7 : (o.k % 8 == 7) = false := by simp [k7]
        have HD : Hid (doM st o = (putM st (o.l.map (blkP st.s.b.toNat))).2) := by show _ = _; unfold doM; rw [if_neg k5, if_neg k6, if_neg k7]
        clear k5 k6 k7
        obtain ⟨bN, hbN⟩ : ∃ bN : Nat, st.s.b = bN := ⟨st.s.b.toNat, by have := (power_bounds hr.2.2.2.2.1).1; omega⟩
        have hbN2 : bN ≤ 10000 := by have := (power_bounds hr.2.2.2.2.1).2; omega
        have hbN3 : st.s.b.toNat = bN := by rw [hbN]; simp
        rw [hbN3] at HD
        obtain ⟨pd, hpd⟩ := HV.out.1.rcells
        rw [hbN] at hpd
        obtain ⟨r0, r2⟩ := hpd
        have HC : Hid (∀ Y, Below w.heap.size w Y → Blk Y q [.int .u8 o.k, .slice A N C, .int .i64 o.z] 34 → Calls Tryz.prog 21 #[.int .i64 (bN : Nat), .slice A N C] Y fun e Z => ∃ A2 C2, e = .returned (.slice A2 N C2) ∧ (Calls Tryz.prog 20 #[.pointer (some ⟨ps, 0, none⟩), .slice A2 N C2] Z fun e w1 => e = .returned (.int .u16 (putM st (o.l.map (blkP bN))).1) ∧ Calls Tryz.prog 81 #[.pointer (some ⟨rs, 0, none⟩), .slice A2 N C2] w1 fun e w3 => e = .returned (.int .i64 (putM st (o.l.map (blkP bN))).1) ∧ Bo B W ps rs (putM st (o.l.map (blkP bN))).2 (m + N) w3) ∧ Z.cell? ⟨rs, 0, none⟩ = some (.pointer (some ⟨pd, 0, none⟩)) ∧ Z.cell? ⟨pd, 2, none⟩ = some (.int .i64 (bN : Nat)) ∧ Z.cell? ⟨q, 1, none⟩ = some (.slice A N C)) := fun Y hY hk => by
          have hsz := HH.out.1.size
          refine (sblocks_of bN A N C o.l (fun x => x < B) Y (HH.out.2.1.below hY) hbN2 (fun x hx => by have := hY.size; omega)).mono ?_
          rintro e Z ⟨A2, C2, rfl, rs2⟩
          have hZ := hY.trans (rs2.bel.mono hY.size)
          have hn : (o.l.map (blkP bN)).length = N := by rw [List.length_map]; exact HH.out.2.1.1
          refine ⟨A2, C2, rfl, put_bo2 HH.out.1 hZ A2 N C2 _ _ (rs2.pts hn (by have := HH.out.2.1.2.1; omega)) rs2.cap (fun x hx => ⟨?_, hx.2⟩) hm, ?_⟩
          · rcases hx.1 with h | h
            · exact .inl h
            · have := hY.size; exact .inr (by omega)
          · have hbw := HH.out.1
            obtain ⟨D, k, D', M', k', h1, h2, h3, h4, _⟩ := hbw
            have hpd2 : pd = k'.pd := by
              have e1 := (h4.under HH.out.2.2.2).cells.1
              rw [h2, r0] at e1
              simpa using e1
            have e2 := (h4.under hZ).dcells.2.2.1
            rw [hbN] at e2
            refine ⟨by rw [hpd2, ← h2]; exact (h4.under hZ).cells.1, by rw [hpd2]; exact e2, (hk.below rs2.bel hk.lt).cell 1⟩
        have hE : IntKind.i64.wrap (putM st (o.l.map (blkP bN))).1 = (putM st (o.l.map (blkP bN))).1 := by have := putM_small st (o.l.map (blkP bN)); rw [IntKind.wrap_i64]; omega
        generalize putM st (o.l.map (blkP bN)) = pm at HC HD hE
        go_wp2_with fail
        rw [← hq]
        have HV2 : Hid (Below w.heap.size w (w.alloc (.cells #[.int .u8 o.k, .slice A N C, .int .i64 o.z] 34)) ∧ Blk (w.alloc (.cells #[.int .u8 o.k, .slice A N C, .int .i64 o.z] 34)) q [.int .u8 o.k, .slice A N C, .int .i64 o.z] 34) := ⟨HH.out.2.2.2, HV.out.2.1⟩
        clear HV hq HH hbN hbN2 hbN3
        generalize World.alloc w _ = V at HV2 r0 r2 ⊢
        have y1 : V.cell? ⟨q, 1, none⟩ = some (.slice A N C) := HV2.out.2.cell 1
        have HC2 := HC.out V.drew (HV2.out.1.drew) HV2.out.2.drew
        clear HC
        go_region_held3 (fun Y => Y.cell? ⟨rs, 0, none⟩ = some (.pointer (some ⟨pd, 0, none⟩)) ∧ Y.cell? ⟨pd, 2, none⟩ = some (.int .i64 (bN : Nat)) ∧ Y.cell? ⟨q, 1, none⟩ = some (.slice A N C)) (first | exact ⟨r0, r2, y1⟩ | exact ⟨z0, z2, z1⟩)
          (first | (go_simp; go_at_call 21; refine HC2.mono ?_; rintro e Y ⟨A2, C2, rfl, hp2, z0, z2, z1⟩))
        clear r0 r2 y1 z0 z2 z1 HC2
        go_wp2_with (first
          | (go_at_call 20; refine hp2.mono ?_; rintro e w4 ⟨rfl, h4⟩; clear hp2)
          | (go_at_call 81; refine h4.mono ?_; rintro e w5 ⟨rfl, h5⟩; clear h4))
        go_ret
        rw [HD.out]
        exact ⟨by simp, h5⟩
end
end Go.Proofs.YtfcbcpjcmihooaaGreat

/- What one call of the document's lent and Zones does. -/
namespace Go.Proofs.YtfcbcpjcmihooaaGreat
open Go.RowKit Go.Shelf
set_option linter.unusedVariables false
set_option maxRecDepth 4000

/-- A zone that is being copied: in a box of its own. -/
structure LtSt (w0 : World) (qb : Nat) (d : Int) (bs : List (List Int)) (k : Nat) (v : Value) (W : World) : Prop where
  box : Blk W qb [v, .int .i64 d] 107
  row : RowAt (fun x => qb ≤ x) W v (bs.take k)
  bel : Below qb w0 W
theorem LtSt.app {w0 W w3 : World} {qb : Nat} {d : Int} {bs : List (List Int)} {k : Nat} {v h : Value} {D : List Int} (st : LtSt w0 qb d bs k v W) (hD : bs[k]? = some D) (hk : k + 1 ≤ 100000) (hb : BkAt (fun x => W.heap.size ≤ x) w3 h D) (hbl : Below W.heap.size W w3) (ho : h.oneCell' = true) :
    ∃ a' c' w5, (Builtin.append_ #[78, 78] 78 #[v, .slice (some ⟨w3.heap.size, 0, none⟩) 1 1]).run Tryz.prog (w3.alloc (.cells #[h] 36)) = .ok (.slice a' (k + 1) c') w5 ∧ w5.cell? ⟨qb, 0, none⟩ = some v ∧ w5.frozen? ⟨qb, 0, none⟩ = false ∧ LtSt w0 qb d bs (k + 1) (.slice a' (k + 1) c') (w5.setCell ⟨qb, 0, none⟩ (.slice a' (k + 1) c')) := by
  have hlt := st.box.lt
  have hsz := hbl.size
  have hl : (bs.take k).length = k := by have := (List.getElem?_eq_some_iff.1 hD).1; simp; omega
  have row3 := st.row.out (below_out Non hbl) (fun _ _ e => e) (fun _ _ _ _ e => e)
  have bk3 := hb.mono (O' := fun x => qb ≤ x) (fun x hx _ => by omega)
  have := app_row row3 bk3 ho (by rw [hl]; exact hk) (fun x hx => by omega)
  rw [hl] at this
  obtain ⟨a', c', w5, r5, row5, g5, f5⟩ := this
  obtain ⟨uv, u1, u2, _⟩ := id row3
  have box3 := (below_out Non hbl).blk st.box id
  have box5 : Blk w5 qb [v, .int .i64 d] 107 := (box3.alloc _).grown (by decide) (u1.alloc _) g5
  refine ⟨a', c', w5, r5, box5.cell 0, box5.frozen 0, ⟨box5.set 0 _, ?_, ?_⟩⟩
  · rw [take_snoc hD]
    exact out_row box5 (by decide) (by decide) 0 _ row5
  · refine (((st.bel.trans (hbl.mono (by omega))).alloc (by omega) _).grown g5 (by simp; omega) (fun j e => u2 j e)).setCell (p := ⟨qb, 0, none⟩) (Nat.le_refl _) _

set_option maxHeartbeats 4000000 in
theorem rlent_of (a : Option Addr) (n c : Nat) (zs : List Zn) (W : World) (hx : ZsIn W a n zs) : Calls Tryz.prog 116 #[.slice a n c] W (ZonesE W zs) := by
  have hn : n ≤ 1000 := hx.2.1
  have H : Hid (ZsIn W a n zs) := hx
  clear hx
  go_enter Tryz.func116, Tryz.ntmps116
  go_wp2
  go_loopw [3, 4] (fun o x wr => ∃ i : Nat, x = .int .i64 i ∧ i ≤ n ∧ Below W.heap.size W wr ∧ ZsAt (fun x => W.heap.size ≤ x) wr o (zs.take i)) (fun o x wr => n - (intOf x).toNat)
  case atStart => exact ⟨0, rfl, Nat.zero_le _, Below.refl _ _, by simpa using ZsAt.nil _ _⟩
  case round =>
    obtain ⟨i, rfl, hi, hb, ho⟩ := hrel
    obtain ⟨w0, hw0⟩ : ∃ w0, w0 = wr := ⟨_, rfl⟩
    subst hw0
    have hl : (zs.take i).length = i := by have := H.out.1; simp; omega
    obtain ⟨oa, oc, hoe⟩ := ho.slice
    rw [hl] at hoe
    subst hoe
    rcases Nat.lt_or_ge i n with hlt | hge
    · obtain ⟨z, hz⟩ : ∃ z, zs[i]? = some z := ⟨zs[i]'(by have := H.out.1; omega), by simp⟩
      obtain ⟨qb, hq⟩ : ∃ q, q = w0.heap.size := ⟨_, rfl⟩
      obtain ⟨b, off, rfl, hc⟩ := (H.out.below hb).2.2.resolve_left (by omega)
      obtain ⟨A, L, C, z0, z1, hbs⟩ := hc i z hz
      have hi' : (i : Int) < (n : Int) := by omega
      have hw1 : IntKind.i64.wrap ((i : Int) + 1) = (i : Int) + 1 := by rw [IntKind.wrap_i64]; omega
      have hLb := hbs.2.1
      have HI : Hid (zs[i]? = some z ∧ Below W.heap.size W w0 ∧ ZsAt (fun x => W.heap.size ≤ x) w0 (.slice oa i oc) (zs.take i) ∧ qb = w0.heap.size ∧ BsIn w0 A L z.1) := ⟨hz, hb, ho, hq, hbs⟩
      have HX : Hid (LtSt w0 qb z.2 z.1 0 (.slice none 0 0) (w0.alloc (.cells #[.slice none 0 0, .int .i64 z.2] 107))) := ⟨Blk.new' hq.symm rfl, by simpa using RowAt.nil _ _, (Below.refl _ _).alloc (by omega) _⟩
      clear hz hb ho hbs hc
      go_upto_region 6 with fail
      rw [← hq]
      generalize hVV : World.alloc _ _ = V at HX ⊢
      clear hVV hq
      go_wp2
      go_loopw [6] (fun x wr2 => ∃ k : Nat, x = .int .i64 k ∧ k ≤ L ∧ ∃ v, LtSt w0 qb z.2 z.1 k v wr2) (fun x wr2 => L - (intOf x).toNat)
      case atStart => exact ⟨0, rfl, Nat.zero_le _, _, HX.out⟩
      case round =>
        obtain ⟨k, rfl, hk, v, st⟩ := hrel
        have hbw : Below w0.heap.size w0 wr := by rw [← HI.out.2.2.2.1]; exact st.bel
        have y0 := (hbw.cell (old_block z0)).trans z0
        have hv9 := st.row.slice
        have hlk : (z.1.take k).length = k := by have := HI.out.2.2.2.2.1; simp; omega
        obtain ⟨va, vc, hv⟩ := hv9
        rw [hlk] at hv
        subst hv
        have x0 : wr.cell? ⟨qb, 0, none⟩ = some (.slice va k vc) := st.box.cell 0
        rcases Nat.lt_or_ge k L with hkl | hkl
        · obtain ⟨D, hD⟩ : ∃ D, z.1[k]? = some D := ⟨z.1[k]'(by have := HI.out.2.2.2.2.1; omega), by simp⟩
          obtain ⟨b2, off2, rfl, hc2⟩ := (HI.out.2.2.2.2.below hbw).2.2.resolve_left (by omega)
          obtain ⟨v2, y2, A2, L2, C2, rfl, k2, k3, k4, k5⟩ := hc2 k D hD
          have hk' : (k : Int) < (L : Int) := by omega
          have hw2 : IntKind.i64.wrap ((k : Int) + 1) = (k : Int) + 1 := by rw [IntKind.wrap_i64]; omega
          have HC : Hid (Calls Tryz.prog 114 #[.slice A2 L2 C2] wr.drew (LentE wr.drew D)) := rLent_of A2 L2 C2 D wr.drew (k2.below (Below.refl _ _).drew) k3 (by omega)
          have HA : Hid (∀ w3 h, BkAt (fun x => wr.heap.size ≤ x) w3 h D → Below wr.heap.size wr w3 → h.oneCell' = true → ∃ a' c' w5, (Builtin.append_ #[78, 78] 78 #[.slice va k vc, .slice (some ⟨w3.heap.size, 0, none⟩) 1 1]).run Tryz.prog (w3.alloc (.cells #[h] 36)) = .ok (.slice a' (k + 1) c') w5 ∧ w5.cell? ⟨qb, 0, none⟩ = some (.slice va k vc) ∧ w5.frozen? ⟨qb, 0, none⟩ = false ∧ LtSt w0 qb z.2 z.1 (k + 1) (.slice a' (k + 1) c') (w5.setCell ⟨qb, 0, none⟩ (.slice a' (k + 1) c'))) := fun w3 h e1 e2 e3 => st.app hD (by omega) e1 e2 e3
          have HB : Hid (Blk wr qb [.slice va k vc, .int .i64 z.2] 107) := st.box
          clear st hbw z0 z1 hc2 k2 k3 k4 k5
          go_wp2
          refine wp_region_noPanic ?_
          go_region_law (first
            | (go_simp; go_at_call 114; refine HC.out.mono ?_; rintro e w3 ⟨h3, rfl, bk3, b3⟩; obtain ⟨x3, y3, e3⟩ := own_slice bk3.1; subst e3; have b4 : Below wr.heap.size wr w3 := ⟨b3.os, b3.tape, b3.output, b3.size, b3.block⟩; obtain ⟨a9, c9, w9, e9, m9, f9, s9⟩ := HA.out w3 _ bk3 b4 rfl; have q3 : w3.cell? ⟨qb, 0, none⟩ = some (.slice va k vc) := (b4.cell HB.out.lt).trans x0; have q4 : ∀ o, (w3.alloc o).cell? ⟨qb, 0, none⟩ = some (.slice va k vc) := fun o => (((Below.refl w3.heap.size w3).alloc (Nat.le_refl _) o).cell (old_block q3)).trans q3)
            | (refine step_append_run rfl (.tmp 30) (.tmp 40) 78 78 rfl _ _ rfl rfl _ _ e9 ?_))
          all_goals
            have HF : Hid (LtSt w0 qb z.2 z.1 (k + 1) (.slice a9 (k + 1) c9) (w9.setCell ⟨qb, 0, none⟩ (.slice a9 (k + 1) c9))) := s9
            clear e9 m9 f9 s9 bk3 b3 b4 q3 q4
            refine NoPanic.normal ?_
            generalize World.setCell _ _ _ = V9 at HF ⊢
            go_wp2
            go_roundw
            case rel => exact ⟨k + 1, by simp, by omega, _, HF.out⟩
            case measure => simp [intOf]; omega
        · obtain rfl : k = L := by omega
          have hA := app_zone (u := .slice va k vc) (d := z.2) HI.out.2.2.1 hbw (by rw [← HI.out.2.2.2.1]; exact st.row) rfl (by rw [hl]; omega) (fun x hx => by have := HI.out.2.1.size; omega)
          rw [hl] at hA
          obtain ⟨a9, c9, w9, e9, z9, g9⟩ := hA
          have hfull : z.1.take k = z.1 := List.take_of_length_le (by have := HI.out.2.2.2.2.1; omega)
          rw [hfull] at z9
          have x1 : wr.cell? ⟨qb, 1, none⟩ = some (.int .i64 z.2) := st.box.cell 1
          have HF : Hid (ZsAt (fun x => W.heap.size ≤ x) w9 (.slice a9 (i + 1) c9) (zs.take (i + 1)) ∧ Below W.heap.size W w9) := by
            refine ⟨by rw [take_snoc HI.out.1]; exact z9, ?_⟩
            have hs := HI.out.2.1.size
            have hs2 := hbw.size
            refine ((HI.out.2.1.trans (hbw.mono hs)).alloc (by omega) _).grown g9 (by simp; omega) (fun k e => ?_)
            obtain ⟨vs9, q1, q2, _⟩ := HI.out.2.2.1
            exact q2 k e
          have HR : Hid ((Builtin.append_ #[45, 45] 45 #[.slice oa i oc, .slice (some ⟨wr.heap.size, 0, none⟩) 1 1]).run Tryz.prog (wr.alloc (.cells #[.slice va k vc, .int .i64 z.2] 107)) = .ok (.slice a9 (i + 1) c9) w9) := e9
          clear e9 z9 g9 hfull st hbw z0 z1
          go_wp2_with (at_builtin; refine wpList_append_run rfl (.tmp 43) (.tmp 45) 45 45 rfl _ _ rfl rfl _ _ HR.out ?_)
          go_roundw
          case rel => exact ⟨i + 1, by simp, by omega, HF.out.2, HF.out.1⟩
          case measure => simp [intOf]; omega
    · obtain rfl : i = n := by omega
      have HS : Hid (ZsAt (fun x => W.heap.size ≤ x) w0 (.slice oa i oc) zs ∧ Below W.heap.size W w0) := ⟨by rw [List.take_of_length_le (by have := H.out.1; omega)] at ho; exact ho, hb⟩
      clear hb ho
      go_wp2
      go_ret
      exact ⟨_, rfl, HS.out.1, HS.out.2⟩

section
variable {O : Nat → Prop} {W : World} {p : Nat} {s : Sh} {zs : List Zn}
theorem rZones_of (hd : Dv 142 O W p s zs) (hs : ShortZ zs) : Calls Tryz.prog 112 #[.pointer (some ⟨p, 0, none⟩)] W (ZonesE W zs) := by
  obtain ⟨g, cz, vs, hv⟩ := hd
  have c4 := hv.pcell.2.2.2.2
  have HC : Hid (Calls Tryz.prog 116 #[.slice (some ⟨g, 0, none⟩) zs.length cz] W (ZonesE W zs)) := rlent_of _ _ _ zs W (hv.all.zsin hs)
  clear hv
  go_enter Tryz.func112, Tryz.ntmps112
  go_wp2_with (go_at_call 116; refine HC.out.mono ?_; rintro e w3 ⟨v, rfl, hz, hb⟩)
  go_ret
  exact ⟨v, rfl, hz, hb⟩
end
end Go.Proofs.YtfcbcpjcmihooaaGreat

/- What one call of same (do both hold the same?) does. -/
namespace Go.Proofs.YtfcbcpjcmihooaaGreat
open Go.RowKit
set_option linter.unusedVariables false
set_option maxRecDepth 4000
section
variable {B : Nat} {W w : World} {ps rs : Nat} {st : St} {m : Nat}
set_option maxHeartbeats 4000000 in
theorem same_bo (h : Bo B W ps rs st m w) (hm : m ≤ 10000) :
    Calls Tryz.prog 49 #[.pointer (some ⟨ps, 0, none⟩), .pointer (some ⟨rs, 0, none⟩)] w fun e w' => e = .returned (.bool true) ∧ Below w.heap.size w w' := by
  obtain ⟨D, k, D', M', k', rfl, rfl, h3, h4, h5, h6, h7, h8, h9⟩ := h
  have H : Hid (∀ Y, Below w.heap.size w Y → StV D Y k st m ∧ SdV D' M' Y k' st) := fun Y hY => ⟨h3.under hY, h4.under hY⟩
  obtain ⟨Z, hZ⟩ : ∃ Z : Nat, st.s.z = Z := ⟨st.s.z.toNat, by have := h3.wf.right.1; omega⟩
  have hZ1 : Z ≤ 256 := by have := h3.wf.right.2.1; omega
  have HZ : Hid (st.s.z = (Z : Nat)) := hZ
  have HS : Hid (st.S.length ≤ 10000 ∧ m < 100000 ∧ Wf st.s st.zs) := ⟨by omega, by omega, h3.wf⟩
  clear h3 h4 h5 h6 h7 h8 h9 hZ
  have HC : Hid (∀ Y, Below w.heap.size w Y → Y.cell? ⟨k'.ps, 0, none⟩ = some (.pointer (some ⟨k'.pd, 0, none⟩)) ∧ Y.cell? ⟨k'.ps, 1, none⟩ = some (.pointer (some ⟨k'.pg, 0, none⟩)) ∧ Y.cell? ⟨k'.ps, 2, none⟩ = some (.pointer (some ⟨k'.pm, 0, none⟩)) ∧ Y.cell? ⟨k'.ps, 3, none⟩ = some (.int .u64 st.q) ∧ Y.cell? ⟨k'.pd, 0, none⟩ = some (.int .i64 (Z : Nat))) := fun Y hY => by
    obtain ⟨hv, hd⟩ := H.out Y hY
    have e := hd.dcells.1
    rw [HZ.out] at e
    exact ⟨hd.cells.1, hd.cells.2.1, hd.cells.2.2.1, hd.cells.2.2.2.1, e⟩
  have HLa : Hid (∀ (j : Nat) Y, Below w.heap.size w Y → Calls Tryz.prog 28 #[.pointer (some ⟨k.ps, 0, none⟩), .int .i64 (j : Nat)] Y fun e X => e = .returned (.int .u64 (lastI st.la j)) ∧ Below w.heap.size w X ∧ X.cell? ⟨k'.ps, 1, none⟩ = some (.pointer (some ⟨k'.pg, 0, none⟩))) := fun j Y hY => (slast_of (j : Nat) (H.out Y hY).1).mono (fun e X hh => ⟨hh.1, hY.trans (hh.2.mono hY.size), (HC.out X (hY.trans (hh.2.mono hY.size))).2.1⟩)
  have HDLa : Hid (∀ (j : Nat) Y, Below w.heap.size w Y → Calls Tryz.prog 75 #[.pointer (some ⟨k'.ps, 0, none⟩), .int .i64 (j : Nat)] Y fun e X => e = .returned (.int .u64 (lastI st.la j)) ∧ Below w.heap.size w X ∧ X.cell? ⟨k'.ps, 1, none⟩ = some (.pointer (some ⟨k'.pg, 0, none⟩))) := fun j Y hY => (dslast_of (j : Nat) (H.out Y hY).2).mono (fun e X hh => ⟨hh.1, hY.trans (hh.2.mono hY.size), (HC.out X (hY.trans (hh.2.mono hY.size))).2.1⟩)
  have HSg : Hid (∀ Y, Below w.heap.size w Y → Calls Tryz.prog 24 #[.pointer (some ⟨k.ps, 0, none⟩)] Y fun e X => e = .returned (.pointer (some ⟨k.pg, 0, none⟩)) ∧ Below w.heap.size w X ∧ X.cell? ⟨k'.ps, 1, none⟩ = some (.pointer (some ⟨k'.pg, 0, none⟩))) := fun Y hY => (sseg_of (H.out Y hY).1).mono (fun e X hh => ⟨hh.1, by rw [hh.2]; exact hY, by rw [hh.2]; exact (HC.out Y hY).2.1⟩)
  have HGs : Hid (∀ (j : Nat) Y, Below w.heap.size w Y → Calls Tryz.prog 25 #[.pointer (some ⟨k.pg, 0, none⟩), .int .i64 (j : Nat)] Y fun e X => e = .returned (.int .u8 (stZ st.L j)) ∧ Below w.heap.size w X ∧ X.cell? ⟨k'.ps, 1, none⟩ = some (.pointer (some ⟨k'.pg, 0, none⟩))) := fun j Y hY => (gState_of k.pg k.gg st.s.r st.L (j : Nat) Y (H.out Y hY).1.sg).mono (fun e X hh => ⟨hh.1, by rw [hh.2]; exact hY, by rw [hh.2]; exact (HC.out Y hY).2.1⟩)
  have HDGs : Hid (∀ (j : Nat) Y, Below w.heap.size w Y → Calls Tryz.prog 107 #[.pointer (some ⟨k'.pg, 0, none⟩), .int .i64 (j : Nat)] Y fun e X => e = .returned (.int .u8 (stZ st.L j)) ∧ Below w.heap.size w X ∧ X.cell? ⟨k'.ps, 1, none⟩ = some (.pointer (some ⟨k'.pg, 0, none⟩))) := fun j Y hY => (dgState_of k'.pg k'.gg k'.gc st.s st.L (j : Nat) Y (H.out Y hY).2.sg).mono (fun e X hh => ⟨hh.1, by rw [hh.2]; exact hY, by rw [hh.2]; exact (HC.out Y hY).2.1⟩)
  have HT : Hid (∀ X, Below w.heap.size w X → X.cell? ⟨k'.ps, 0, none⟩ = some (.pointer (some ⟨k'.pd, 0, none⟩)) ∧ X.cell? ⟨k'.ps, 2, none⟩ = some (.pointer (some ⟨k'.pm, 0, none⟩)) ∧ X.cell? ⟨k'.ps, 3, none⟩ = some (.int .u64 st.q)) := fun X hX => by obtain ⟨a0, a1, a2, a3, a4⟩ := HC.out X hX; exact ⟨a0, a2, a3⟩
  have HSq : Hid (∀ Y, Below w.heap.size w Y → Calls Tryz.prog 41 #[.pointer (some ⟨k.ps, 0, none⟩)] Y fun e X => e = .returned (.int .u64 st.q) ∧ Below w.heap.size w X ∧ X.cell? ⟨k'.ps, 0, none⟩ = some (.pointer (some ⟨k'.pd, 0, none⟩)) ∧ X.cell? ⟨k'.ps, 2, none⟩ = some (.pointer (some ⟨k'.pm, 0, none⟩)) ∧ X.cell? ⟨k'.ps, 3, none⟩ = some (.int .u64 st.q)) := fun Y hY => (sseq_of (H.out Y hY).1).mono (fun e X hh => ⟨hh.1, by rw [hh.2]; exact hY, by rw [hh.2]; exact HT.out Y hY⟩)
  have HLo : Hid (∀ Y, Below w.heap.size w Y → Calls Tryz.prog 85 #[.pointer (some ⟨k.ps, 0, none⟩)] Y fun e X => e = .returned (.bool (lowB st.L st.s.r)) ∧ Below w.heap.size w X ∧ X.cell? ⟨k'.ps, 0, none⟩ = some (.pointer (some ⟨k'.pd, 0, none⟩)) ∧ X.cell? ⟨k'.ps, 2, none⟩ = some (.pointer (some ⟨k'.pm, 0, none⟩)) ∧ X.cell? ⟨k'.ps, 3, none⟩ = some (.int .u64 st.q)) := fun Y hY => (slow_of (H.out Y hY).1).mono (fun e X hh => ⟨hh.1, hY.trans (hh.2.mono hY.size), HT.out _ (hY.trans (hh.2.mono hY.size))⟩)
  have HDLo : Hid (∀ Y, Below w.heap.size w Y → Calls Tryz.prog 86 #[.pointer (some ⟨k'.ps, 0, none⟩)] Y fun e X => e = .returned (.bool (lowB st.L st.s.r)) ∧ Below w.heap.size w X ∧ X.cell? ⟨k'.ps, 0, none⟩ = some (.pointer (some ⟨k'.pd, 0, none⟩)) ∧ X.cell? ⟨k'.ps, 2, none⟩ = some (.pointer (some ⟨k'.pm, 0, none⟩)) ∧ X.cell? ⟨k'.ps, 3, none⟩ = some (.int .u64 st.q)) := fun Y hY => (dslow_of (H.out Y hY).2).mono (fun e X hh => ⟨hh.1, hY.trans (hh.2.mono hY.size), HT.out _ (hY.trans (hh.2.mono hY.size))⟩)
  have HMp : Hid (∀ Y, Below w.heap.size w Y → Calls Tryz.prog 22 #[.pointer (some ⟨k.ps, 0, none⟩)] Y fun e X => e = .returned (.pointer (some ⟨k.pm, 0, none⟩)) ∧ Below w.heap.size w X ∧ X.cell? ⟨k'.ps, 0, none⟩ = some (.pointer (some ⟨k'.pd, 0, none⟩)) ∧ X.cell? ⟨k'.ps, 2, none⟩ = some (.pointer (some ⟨k'.pm, 0, none⟩)) ∧ X.cell? ⟨k'.ps, 3, none⟩ = some (.int .u64 st.q)) := fun Y hY => (smap_of (H.out Y hY).1).mono (fun e X hh => ⟨hh.1, by rw [hh.2]; exact hY, by rw [hh.2]; exact HT.out Y hY⟩)
  have HDv : Hid (∀ Y, Below w.heap.size w Y → Calls Tryz.prog 26 #[.pointer (some ⟨k.ps, 0, none⟩)] Y fun e X => e = .returned (.pointer (some ⟨k.pd, 0, none⟩)) ∧ Below w.heap.size w X ∧ X.cell? ⟨k'.ps, 0, none⟩ = some (.pointer (some ⟨k'.pd, 0, none⟩)) ∧ X.cell? ⟨k'.ps, 2, none⟩ = some (.pointer (some ⟨k'.pm, 0, none⟩)) ∧ X.cell? ⟨k'.ps, 3, none⟩ = some (.int .u64 st.q)) := fun Y hY => (sdev_of (H.out Y hY).1).mono (fun e X hh => ⟨hh.1, by rw [hh.2]; exact hY, by rw [hh.2]; exact HT.out Y hY⟩)
  have HAl : Hid (∀ Y, Below w.heap.size w Y → Calls Tryz.prog 23 #[.pointer (some ⟨k.pm, 0, none⟩)] Y fun e X => ∃ a cc, e = .returned (.slice a st.S.length cc) ∧ (PlIn X a st.S.length st.S ∧ Below w.heap.size w X) ∧ X.cell? ⟨k'.ps, 0, none⟩ = some (.pointer (some ⟨k'.pd, 0, none⟩)) ∧ X.cell? ⟨k'.ps, 2, none⟩ = some (.pointer (some ⟨k'.pm, 0, none⟩)) ∧ X.cell? ⟨k'.ps, 3, none⟩ = some (.int .u64 st.q)) := fun Y hY => by
    refine (mAll_of k.pm k.b1 k.b2 st.S m Y (H.out Y hY).1.mp HS.out.2.1).mono ?_
    rintro e X ⟨a, n, cc, rfl, ow, hX⟩
    have hb := hY.trans (hX.mono hY.size)
    have hn : st.S.length = n := (own_pl ow).1
    subst hn
    exact ⟨a, cc, rfl, ⟨own_pl ow, hb⟩, HT.out X hb⟩
  have HDAl : Hid (∀ Y a, PlIn Y a st.S.length st.S → Below w.heap.size w Y → Calls Tryz.prog 109 #[.pointer (some ⟨k'.pm, 0, none⟩)] Y fun e X => ∃ b cc, e = .returned (.slice b st.S.length cc) ∧ (PlIn X a st.S.length st.S ∧ PlIn X b st.S.length st.S ∧ Below w.heap.size w X) ∧ X.cell? ⟨k'.ps, 0, none⟩ = some (.pointer (some ⟨k'.pd, 0, none⟩)) ∧ X.cell? ⟨k'.ps, 2, none⟩ = some (.pointer (some ⟨k'.pm, 0, none⟩)) ∧ X.cell? ⟨k'.ps, 3, none⟩ = some (.int .u64 st.q)) := fun Y a ha hY => by
    refine (dmAll_of k'.pm st.S Y (H.out Y hY).2.mp.d HS.out.1).mono ?_
    rintro e X ⟨b, cc, rfl, ow, hX⟩
    have hb := hY.trans (hX.mono hY.size)
    exact ⟨b, cc, rfl, ⟨ha.below hX, ow, hb⟩, HT.out X hb⟩
  have HSp : Hid (∀ Y a b c1 c2, (PlIn Y a st.S.length st.S ∧ PlIn Y b st.S.length st.S ∧ Below w.heap.size w Y) → Calls Tryz.prog 108 #[.slice a st.S.length c1, .slice b st.S.length c2] Y fun e X => e = .returned (.bool true) ∧ Below w.heap.size w X ∧ X.cell? ⟨k'.ps, 0, none⟩ = some (.pointer (some ⟨k'.pd, 0, none⟩)) ∧ X.cell? ⟨k'.ps, 2, none⟩ = some (.pointer (some ⟨k'.pm, 0, none⟩)) ∧ X.cell? ⟨k'.ps, 3, none⟩ = some (.int .u64 st.q)) := fun Y a b c1 c2 hh => (samePlaces_of a b st.S.length c1 c2 st.S Y hh.1 hh.2.1 (by have := HS.out.1; omega)).mono (fun e X h2 => ⟨h2.1, hh.2.2.trans (h2.2.mono hh.2.2.size), HT.out _ (hh.2.2.trans (h2.2.mono hh.2.2.size))⟩)
  have HZn : Hid (∀ Y, Below w.heap.size w Y → Calls Tryz.prog 111 #[.pointer (some ⟨k.pd, 0, none⟩)] Y fun e X => ∃ a n cc, e = .returned (.slice a n cc) ∧ (ZsIn X a n st.zs ∧ Below w.heap.size w X) ∧ X.cell? ⟨k'.ps, 0, none⟩ = some (.pointer (some ⟨k'.pd, 0, none⟩)) ∧ X.cell? ⟨k'.ps, 2, none⟩ = some (.pointer (some ⟨k'.pm, 0, none⟩)) ∧ X.cell? ⟨k'.ps, 3, none⟩ = some (.int .u64 st.q)) := fun Y hY => by
    refine (zones_of (H.out Y hY).1.dv HS.out.2.2).mono ?_
    rintro e X ⟨v, rfl, hz, hX⟩
    have hb := hY.trans (hX.mono hY.size)
    obtain ⟨a, cc, rfl⟩ := hz.slice
    exact ⟨a, _, cc, rfl, ⟨hz.zsin HS.out.2.2.short, hb⟩, HT.out X hb⟩
  have HDZn : Hid (∀ Y a n, ZsIn Y a n st.zs → Below w.heap.size w Y → Calls Tryz.prog 112 #[.pointer (some ⟨k'.pd, 0, none⟩)] Y fun e X => ∃ b n2 cc, e = .returned (.slice b n2 cc) ∧ (ZsIn X a n st.zs ∧ ZsIn X b n2 st.zs ∧ Below w.heap.size w X) ∧ X.cell? ⟨k'.ps, 0, none⟩ = some (.pointer (some ⟨k'.pd, 0, none⟩)) ∧ X.cell? ⟨k'.ps, 2, none⟩ = some (.pointer (some ⟨k'.pm, 0, none⟩)) ∧ X.cell? ⟨k'.ps, 3, none⟩ = some (.int .u64 st.q)) := fun Y a n ha hY => by
    refine (rZones_of (H.out Y hY).2.dv HS.out.2.2.short).mono ?_
    rintro e X ⟨v, rfl, hz, hX⟩
    have hb := hY.trans (hX.mono hY.size)
    obtain ⟨b, cc, rfl⟩ := hz.slice
    exact ⟨b, _, cc, rfl, ⟨ha.below hX, hz.zsin HS.out.2.2.short, hb⟩, HT.out X hb⟩
  have HSz : Hid (∀ Y a n b n2 c1 c2, (ZsIn Y a n st.zs ∧ ZsIn Y b n2 st.zs ∧ Below w.heap.size w Y) → Calls Tryz.prog 110 #[.slice a n c1, .slice b n2 c2] Y fun e X => e = .returned (.bool true) ∧ Below w.heap.size w X ∧ X.cell? ⟨k'.ps, 0, none⟩ = some (.pointer (some ⟨k'.pd, 0, none⟩)) ∧ X.cell? ⟨k'.ps, 2, none⟩ = some (.pointer (some ⟨k'.pm, 0, none⟩)) ∧ X.cell? ⟨k'.ps, 3, none⟩ = some (.int .u64 st.q)) := fun Y a n b n2 c1 c2 hh => (sameZones_of a n c1 b n2 c2 st.zs Y hh.1 hh.2.1).mono (fun e X h2 => by
    obtain ⟨rfl, kk, rfl⟩ := h2
    have hb := Go.below_drewN hh.2.2 kk
    exact ⟨rfl, hb, HT.out _ hb⟩)
  go_enter Tryz.func49, Tryz.ntmps49
  go_wp2_with fail
  go_loopw [5] (fun x wr => ∃ j : Nat, x = .int .i64 j ∧ j ≤ Z ∧ Below w.heap.size w wr) (fun x _ => Z - (intOf x).toNat)
  case atStart => exact ⟨0, rfl, Nat.zero_le _, Below.refl _ _⟩
  case round =>
    obtain ⟨j, rfl, hj, hb⟩ := hrel
    obtain ⟨c0, c1, c2, c3, cd⟩ := HC.out wr hb
    have HB : Hid (Below w.heap.size w wr) := hb
    clear hb
    rcases Nat.lt_or_ge j Z with hlt | hge
    · have hj' : (j : Int) < Z := by omega
      have hwj : IntKind.i64.wrap ((j : Int) + 1) = (j : Int) + 1 := by rw [IntKind.wrap_i64]; omega
      have hL := HLa.out j
      have hD := HDLa.out j
      have hG := HGs.out j
      have hDG := HDGs.out j
      generalize lastI st.la (j : Nat) = L1 at hL hD
      generalize stZ st.L (j : Nat) = S1 at hG hDG
      clear HLa HDLa HGs HDGs
      go_wp2_with fail
      go_region_held3 (fun Y => Y.cell? ⟨k'.ps, 1, none⟩ = some (.pointer (some ⟨k'.pg, 0, none⟩))) (first | exact c1 | exact d1 | exact d2 | exact d3 | exact d4 | exact d5)
        (first
        | (go_simp; go_at_call 28; refine (hL _ (by exact HB.out.drew)).mono ?_; rintro e Y1 ⟨rfl, b1, d1⟩)
        | (go_simp; go_at_call 75; refine (hD _ (by exact b1)).mono ?_; rintro e Y2 ⟨rfl, b2, d2⟩)
        | (go_simp; go_at_call 24; refine (HSg.out _ (by exact b2)).mono ?_; rintro e Y3 ⟨rfl, b3, d3⟩)
        | (go_simp; go_at_call 25; refine (hG _ (by exact b3)).mono ?_; rintro e Y4 ⟨rfl, b4, d4⟩)
        | (go_simp; go_at_call 107; refine (hDG _ (by exact b4)).mono ?_; rintro e Y5 ⟨rfl, b5, d5⟩))
      have H5 : Hid (Below w.heap.size w Y5) := b5
      clear b1 b2 b3 b4 b5 d1 d2 d3 d4 d5 c0 c1 c2 c3 cd
      clear HSq HLo HDLo HMp HDv HAl HDAl HSp HZn HDZn HSz HT
      go_wp2
      go_roundw
      case rel => exact ⟨j + 1, by simp, by omega, H5.out⟩
      case measure => simp [intOf]; omega
    · have hge' : ¬ (j : Int) < Z := by omega
      clear HLa HDLa HGs HDGs HSg
      generalize lowB st.L st.s.r = lo at HLo HDLo
      go_wp2_with fail
      go_region_held3 (fun Y => Y.cell? ⟨k'.ps, 0, none⟩ = some (.pointer (some ⟨k'.pd, 0, none⟩)) ∧ Y.cell? ⟨k'.ps, 2, none⟩ = some (.pointer (some ⟨k'.pm, 0, none⟩)) ∧ Y.cell? ⟨k'.ps, 3, none⟩ = some (.int .u64 st.q)) (first | exact ⟨c0, c2, c3⟩ | exact d1 | exact d2 | exact d3 | exact d4 | exact d5 | exact d6 | exact d7 | exact d8 | exact d9 | exact d10 | exact d11)
        (first
        | (go_simp; go_at_call 41; refine (HSq.out _ (by exact HB.out.drew)).mono ?_; rintro e Y1 ⟨rfl, b1, d1⟩)
        | (go_simp; go_at_call 85; refine (HLo.out _ (by exact b1)).mono ?_; rintro e Y2 ⟨rfl, b2, d2⟩)
        | (go_simp; go_at_call 86; refine (HDLo.out _ (by exact b2)).mono ?_; rintro e Y3 ⟨rfl, b3, d3⟩)
        | (go_simp; go_at_call 22; refine (HMp.out _ (by exact b3)).mono ?_; rintro e Y4 ⟨rfl, b4, d4⟩)
        | (go_simp; go_at_call 23; refine (HAl.out _ (by exact b4)).mono ?_; rintro e Y5 ⟨a5, cc5, rfl, b5, d5⟩)
        | (go_simp; go_at_call 109; refine (HDAl.out _ a5 (by exact b5.1) (by exact b5.2)).mono ?_; rintro e Y6 ⟨a6, cc6, rfl, b6, d6⟩)
        | (go_simp; go_at_call 108; refine (HSp.out _ a5 a6 cc5 cc6 (by exact b6)).mono ?_; rintro e Y7 ⟨rfl, b7, d7⟩)
        | (go_simp; go_at_call 26; refine (HDv.out _ (by exact b7)).mono ?_; rintro e Y8 ⟨rfl, b8, d8⟩)
        | (go_simp; go_at_call 111; refine (HZn.out _ (by exact b8)).mono ?_; rintro e Y9 ⟨a9, n9, cc9, rfl, b9, d9⟩)
        | (go_simp; go_at_call 112; refine (HDZn.out _ a9 n9 (by exact b9.1) (by exact b9.2)).mono ?_; rintro e Y10 ⟨a10, n10, cc10, rfl, b10, d10⟩)
        | (go_simp; go_at_call 110; refine (HSz.out _ a9 n9 a10 n10 cc9 cc10 (by exact b10)).mono ?_; rintro e Y11 ⟨rfl, b11, d11⟩))
      have H11 : Hid (Below w.heap.size w Y11) := b11
      clear b1 b2 b3 b4 b5 b6 b7 b8 b9 b10 b11 d1 d2 d3 d4 d5 d6 d7 d8 d9 d10 d11 c0 c1 c2 c3 cd
      clear HSq HLo HDLo HMp HDv HAl HDAl HSp HZn HDZn HSz HT
      go_wp2
      go_ret
      exact ⟨by simp, H11.out⟩
end
end Go.Proofs.YtfcbcpjcmihooaaGreat

/- What holds of a store from the beginning on stays, whatever is called. -/
namespace Go.Proofs.YtfcbcpjcmihooaaGreat
open Go.RowKit
set_option linter.unusedVariables false
set_option maxRecDepth 4000
theorem turn_keep {L : List Int} {z a b : Int} {i : Nat} (h : L.getD i 0 = 4) (ha : a ≠ 4) (h0 : a ≠ 0) : (turnZ L z a b).getD i 0 = 4 := by
  unfold turnZ
  split
  · rename_i hz
    unfold stZ at hz
    split at hz
    · by_cases hi : z.toNat < L.length
      · rw [getD_set _ _ _ _ hi]
        split
        · rename_i e
          rw [e] at h; omega
        · exact h
      · rw [List.set_eq_of_length_le (by omega)]
        exact h
    · omega
  · exact h
theorem take_keep {L : List Int} {i : Nat} (h : L.getD i 0 = 4) : (takeZ L).getD i 0 = 4 := by
  unfold takeZ
  split
  · rename_i hl
    rw [getD_set _ _ _ _ hl]
    split
    · rename_i e
      have := first_at hl
      rw [e] at h
      omega
    · exact h
  · exact h
theorem cur_keep {L : List Int} {i : Nat} (h : L.getD i 0 = 4) : (curL L).getD i 0 = 4 := by
  unfold curL
  split
  · exact h
  · exact take_keep h
theorem open_keep (s : Sh) (zs : List Zn) (k : Int) {i : Nat} : ∀ (m : Nat) (L : List Int), muZ L = m → L.getD i 0 = 4 → (openZ s zs k L).2.2.getD i 0 = 4 := by
  intro m
  induction m with
  | zero =>
    intro L hm h
    rw [openZ_done (fun h => by have := cur_mu h.1; omega)]
    exact cur_keep h
  | succ m ih =>
    intro L hm h
    by_cases hn : curB L = true ∧ roomZ s zs (curA L) < k
    · have hc := cur_mu hn.1
      rw [← openZ_more hn.1 hn.2]
      exact ih _ (by omega) (turn_keep (cur_keep h) (by decide) (by decide))
    · rw [openZ_done hn]
      exact cur_keep h
theorem blk_flush (zs : List Zn) (a : Pr) : blkZ (flushZ zs) a = blkZ zs a := by
  unfold blkZ flushZ
  split
  · simp only [List.getElem?_mapIdx]
    cases zs[a.1.toNat]? <;> rfl
  · rfl
theorem blk_set {zs : List Zn} {i : Nat} {z : Zn} {a : Pr} (h : a.1 ≠ i) : blkZ (zs.set i z) a = blkZ zs a := by
  unfold blkZ
  split
  · rename_i h0
    rw [List.getElem?_set_ne (by omega)]
  · rfl
theorem wr_hi {st : St} {z : Nat} {l : List Pt} (hi : Inv st) (hz : z < st.zs.length) (hl0 : 0 < l.length) (hl1 : (l.length : Int) ≤ roomI st.s.b) (ho : okP st.s l) (hf : ∀ p ∈ l, p.Fits) (hr : ((datN l : Nat) : Int) + 1 ≤ roomZ st.s st.zs z) (h2 : 2 ≤ z) (hS : ∀ x ∈ st.S, 2 ≤ x.2.1) :
    ∀ j, j ≤ l.length → ∀ x ∈ (wrY st z l j).2, 2 ≤ x.2.1 := by
  intro j
  induction j with
  | zero => intro _ x hx; rw [wrY_zero] at hx; exact hS x hx
  | succ j ih =>
    intro hj x hx
    obtain ⟨p, hp⟩ : ∃ p, l[j]? = some p := ⟨l[j], by simp [show j < l.length by omega]⟩
    obtain ⟨w1, w2, w3, w4, w5⟩ := wr_mem hi hz hl0 hl1 ho hf hr j (by omega)
    rw [wrY_next hp] at hx
    unfold oneP at hx
    split at hx
    · exact ih (by omega) x (mem_dropS.1 hx).1
    · rename_i hpx
      rcases (mem_putS w2.1).1 hx with rfl | ⟨h', _⟩
      · have hd : (p.d.length : Int) = st.s.b := (ho p (List.mem_of_getElem? hp)).resolve_left hpx
        have hdn : datN (l.take j) + 1 ≤ datN l := by
          have e1 : l.take (j + 1) = l.take j ++ [p] := take_snoc hp
          have e2 : datN (l.take (j + 1)) = datN (l.take j) + 1 := by rw [e1]; unfold datN; simp [hpx]
          have e3 : datN (l.take (j + 1)) ≤ datN l := by unfold datN; exact ((List.take_sublist (j + 1) l).filter _).length_le
          omega
        have hnf : ¬ appFull st.s (wrY st z l j).1 z := by unfold appFull roomZ at *; omega
        have hok : appOk st.s (wrY st z l j).1 z p.d := ⟨by omega, by omega, hd⟩
        show 2 ≤ (appA st.s (wrY st z l j).1 z p.d).1
        unfold appA
        rw [if_pos hok, if_neg hnf]
        show 2 ≤ (z : Int)
        omega
      · exact ih (by omega) x h'
theorem put_inv2 : ∀ (f : Nat) (st : St) (l : List Pt), Inv2 st → okP st.s l → (∀ p ∈ l, p.Fits) → l.length ≤ f → Inv2 (putF f st l).2
  | 0, st, l, hi, ho, hf, hl => by unfold putF; exact hi
  | f + 1, st, [], hi, ho, hf, hl => by unfold putF; exact hi
  | f + 1, st, p :: l, hi, ho, hf, hl => by
    have hr := hi.inv.wf.right
    rw [putFstep]
    by_cases hb : (openZ st.s st.zs (needP p) st.L).2.1 = true
    · rw [if_pos hb]
      obtain ⟨i, h1, h2, h3, h4⟩ := openZ_in st.s st.zs (needP p) _ st.L rfl hb
      have hlen := openZ_length st.s st.zs (needP p) _ st.L rfl
      have q0 := open_keep st.s st.zs (needP p) _ st.L rfl hi.k0
      have q1 := open_keep st.s st.zs (needP p) _ st.L rfl hi.k1
      have hi2 : 2 ≤ i := by
        rcases i with _ | _ | i
        · rw [q0] at h3; omega
        · rw [q1] at h3; omega
        · omega
      rw [h1]
      obtain ⟨n, hn⟩ : ∃ n, n = frontN st i (p :: l) := ⟨_, rfl⟩
      rw [← hn]
      have hpos : 0 < n := by rw [hn]; exact front_pos hr h4
      have hle := frN_le (p :: l) (roomI st.s.b).toNat (roomZ st.s st.zs i - 1)
      have hdat := frN_dat (p :: l) (roomI st.s.b).toNat (roomZ st.s st.zs i - 1)
      rw [show frN (p :: l) (roomI st.s.b).toNat (roomZ st.s st.zs i - 1) = n from hn.symm] at hle hdat
      have hroom : 1 ≤ roomZ st.s st.zs i := by have : 1 ≤ needP p := by unfold needP; split <;> omega
                                                omega
      have hR := roomI_nat hr
      have hi1 : Inv { st with L := (openZ st.s st.zs (needP p) st.L).2.2 } := ⟨hi.inv.wf, hi.inv.plc, by show (openZ st.s st.zs (needP p) st.L).2.2.length = _; rw [hlen]; exact hi.inv.len⟩
      have hlt : ((p :: l).take n).length = n := by rw [List.length_take]; omega
      have a1 : i < st.zs.length := by rw [← hi.inv.len]; exact h2
      have a2 : okP st.s ((p :: l).take n) := fun x hx => ho x (List.mem_of_mem_take hx)
      have a3 : ∀ x ∈ (p :: l).take n, x.Fits := fun x hx => hf x (List.mem_of_mem_take hx)
      obtain ⟨w1, w2⟩ := write_inv (z := i) (l := (p :: l).take n) hi1 a1 (by omega) (by show (((p :: l).take n).length : Int) ≤ roomI st.s.b; omega) a2 a3 (by show _ ≤ roomZ st.s st.zs i; omega)
      have w3 := wr_hi (z := i) (l := (p :: l).take n) hi1 a1 (by omega) (by show (((p :: l).take n).length : Int) ≤ roomI st.s.b; omega) a2 a3 (by show _ ≤ roomZ st.s st.zs i; omega) hi2 hi.hi _ (Nat.le_refl _)
      refine put_inv2 f _ _ ⟨w1, w3, ?_, ?_, hi.o⟩ (fun x hx => ho x (List.mem_of_mem_drop hx)) (fun x hx => hf x (List.mem_of_mem_drop hx)) (by rw [List.length_drop]; simp only [List.length_cons] at hl ⊢; omega)
      · show (fullL _ _ _ _).getD 0 0 = 4
        unfold fullL
        split
        · exact turn_keep q0 (by decide) (by decide)
        · exact q0
      · show (fullL _ _ _ _).getD 1 0 = 4
        unfold fullL
        split
        · exact turn_keep q1 (by decide) (by decide)
        · exact q1
    · rw [if_neg hb]
      have hlen := openZ_length st.s st.zs (needP p) _ st.L rfl
      exact ⟨⟨hi.inv.wf, hi.inv.plc, by show (openZ st.s st.zs (needP p) st.L).2.2.length = _; rw [hlen]; exact hi.inv.len⟩, hi.hi, open_keep st.s st.zs (needP p) _ st.L rfl hi.k0, open_keep st.s st.zs (needP p) _ st.L rfl hi.k1, hi.o⟩
theorem Plc.eq {zs zs' : List Zn} {S : List Pl} (h : Plc zs S) (he : ∀ x ∈ S, blkZ zs' x.2 = blkZ zs x.2) : Plc zs' S := ⟨h.1, fun x hx => by rw [he x hx]; exact h.2 x hx⟩
theorem blkP_fits {S : Nat} {p : Pt} (h : p.Fits) : (blkP S p).Fits := by
  unfold blkP
  split
  · exact h
  · exact ⟨h.1, h.2.1, blockB_fits h.2.2⟩
theorem do_inv2 {st : St} (h : Inv2 st) (o : Od) (hf : ∀ p ∈ o.l, p.Fits) : Inv2 (doM st o) := by
  have hl := h.inv.len
  unfold doM
  split
  · refine ⟨⟨h.inv.wf.flush, h.inv.plc.eq (fun x hx => blk_flush _ _), ?_⟩, h.hi, h.k0, h.k1, h.o⟩
    show st.L.length = (flushZ st.zs).length
    unfold flushZ
    simpa using hl
  · split
    · have hw := swf_svZ h.inv.wf (1 - st.o) st.q st.S
      refine ⟨⟨hw, ?_, ?_⟩, h.hi, h.k0, h.k1, ?_⟩
      · refine h.inv.plc.eq (fun x hx => ?_)
        show blkZ (svZ st.s st.zs (1 - st.o) st.q st.S) x.2 = _
        unfold svZ
        split
        · unfold putZ
          rw [blk_flush, blk_set (by have := h.hi x hx; have := h.o; omega)]
        · rfl
      · show st.L.length = (svZ st.s st.zs (1 - st.o) st.q st.S).length
        have e1 := hw.len
        have e2 := h.inv.wf.len
        omega
      · have e := h.o
        unfold markM
        simp only
        split
        · omega
        · exact e
    · split
      · unfold clearM
        split
        · rename_i hc
          obtain ⟨i, hz, hi⟩ := st3_in hc.1
          refine ⟨⟨h.inv.wf.reset _, ?_, ?_⟩, h.hi, turn_keep h.k0 (by decide) (by decide), turn_keep h.k1 (by decide) (by decide), h.o⟩
          · refine h.inv.plc.eq (fun x hx => ?_)
            show blkZ (resetZ st.zs o.z) x.2 = _
            rw [hz, resetZ_in, blk_set (by have := hc.2 x hx; rw [hz] at this; exact this)]
          · show (turnZ st.L o.z 3 1).length = (resetZ st.zs o.z).length
            rw [turnZ_length, hz, resetZ_in]
            simpa using hl
        · exact h
      · unfold putM
        split
        · rename_i hk
          refine put_inv2 _ _ _ h hk (fun p hp => ?_) (Nat.le_refl _)
          obtain ⟨q, hq, rfl⟩ := List.mem_map.1 hp
          exact blkP_fits (hf q hq)
        · exact h
theorem st0_inv2 {s : Sh} (h : RightS s) : Inv2 (st0 s) := by
  exact ⟨st0_inv h, (fun x hx => by cases hx), rfl, rfl, .inl rfl⟩
end Go.Proofs.YtfcbcpjcmihooaaGreat
