/- Texts of this seat, one behind the other: ClN, ClQ, ClB, ClL. -/
import Derived.Test.YtncnkpnfmbgifaaGreatS5
import Derived.Test.YtncnkpnfmbgifaaGreatQ21
import Derived.Test.YtncnkpnfmbgifaaGreatQ15
import Derived.Test.YtncnkpnfmbgifaaGreatP25
import Derived.Test.YtncnkpnfmbgifaaGreatP11
/- The example of the chapter on cleaning, as lists. -/
namespace Go.Proofs.YtncnkpnfmbgifaaGreat
open Go.RowKit
set_option linter.unusedVariables false
set_option maxRecDepth 4000
structure D17 (j : Nat) (st : St) : Prop where
 i2 : Inv2 st
 s : st.s = s6
 S : st.S = []
 len : (atZ st.zs (2 : Nat)).1.length = j
 one : atZ st.zs (1 : Nat) = ([], 0)
 L : st.L = if j = 0 then [4, 4, 1, 1, 1, 1] else if j = 8 then [4, 4, 3, 1, 1, 1] else [4, 4, 2, 1, 1, 1]
 o : st.o = 0
theorem d17_zero : D17 0 (st0 s6) := ⟨st0_inv2 s6_right, rfl, rfl, by rw [st0_at s6 (by omega)]; rfl, st0_at s6 (by omega), by decide, rfl⟩
theorem d17_next {j : Nat} {st : St} (h : D17 j st) (hj : j < 8) : (putM st [pB]).1 = 0 ∧ D17 (j + 1) (putM st [pB]).2 := by
 have hR : roomZ st.s st.zs (2 : Nat) = 8 - (j : Int) := by unfold roomZ; rw [h.len, h.s]; rfl
 have hz : openZ st.s st.zs (needP pB) st.L = (((2 : Nat) : Int), true, [4, 4, 2, 1, 1, 1]) := by
  have hn : needP pB = 1 := by unfold needP pB; simp
  rw [h.L, hn]
  by_cases h0 : j = 0
  ·have hc : curA [4, 4, 1, 1, 1, 1] = ((2 : Nat) : Int) ∧ curB [4, 4, 1, 1, 1, 1] = true ∧ curL [4, 4, 1, 1, 1, 1] = [4, 4, 2, 1, 1, 1] := by decide
   rw [if_pos h0, openZ_done (by rw [hc.1, hR]; rintro ⟨_, h⟩; omega), hc.1, hc.2.1, hc.2.2]
  ·have hc : curA [4, 4, 2, 1, 1, 1] = ((2 : Nat) : Int) ∧ curB [4, 4, 2, 1, 1, 1] = true ∧ curL [4, 4, 2, 1, 1, 1] = [4, 4, 2, 1, 1, 1] := by decide
   rw [if_neg h0, if_neg (by omega), openZ_done (by rw [hc.1, hR]; rintro ⟨_, h⟩; omega), hc.1, hc.2.1, hc.2.2]
 have hf : frontN st (2 : Nat) [pB] = 1 := by
  unfold frontN
  rw [h.s, show (roomI s6.b).toNat = 2 by decide]
  rfl
 have ho : okP st.s [pB] := fun p hp => by rw [List.mem_singleton.1 hp]; exact .inl rfl
 have hfit : ∀ p ∈ [pB], p.Fits := fun p hp => by rw [List.mem_singleton.1 hp]; exact pB_fits
 have h1 := putM_one ho hz hf
 have hi2 : Inv2 (putM st [pB]).2 := putM_inv2 h.i2 hfit
 have hll : st.L.length = 6 := by rw [h.L]; split; rfl; split <;> rfl
 have hzl : 2 < st.zs.length := by have := h.i2.inv.len; omega
 have hi0 : Inv { st with L := [4, 4, 2, 1, 1, 1] } := ⟨h.i2.inv.wf, h.i2.inv.plc, by have := h.i2.inv.len; show 6 = st.zs.length; omega⟩
 obtain ⟨_, _, _, w4, _⟩ := wr_mem (st := { st with L := [4, 4, 2, 1, 1, 1] }) (z := 2) (l := [pB]) hi0 hzl (by decide) (by rw [h.s]; decide) ho hfit (by show _ ≤ roomZ st.s st.zs (2 : Nat); rw [hR]; show ((0 : Nat) : Int) + 1 ≤ _; omega) 1 (by decide)
 have w4' : (atZ (wrY { st with L := [4, 4, 2, 1, 1, 1] } (2 : Nat) [pB] 1).1 (2 : Nat)).1.length = j + 1 := by
  rw [w4]
  show (atZ st.zs (2 : Nat)).1.length + 1 + 0 = _
  rw [h.len]
 have wo := wr_other (st := { st with L := [4, 4, 2, 1, 1, 1] }) (z := 2) (x := 1) (l := [pB]) (by decide) 1 (by decide)
 rw [h1]
 refine ⟨rfl, by rw [h1] at hi2; exact hi2, h.s, ?_, w4', ?_, ?_, h.o⟩
 ·show (wrY { st with L := [4, 4, 2, 1, 1, 1] } (2 : Nat) [pB] 1).2 = []
  rw [wrY_next (p := pB) rfl, wrY_zero]
  show dropS st.S pB.n = []
  rw [h.S]
  rfl
 ·show atZ (wrY { st with L := [4, 4, 2, 1, 1, 1] } (2 : Nat) [pB] 1).1 (1 : Nat) = _
  rw [wo]
  exact h.one
 ·show fullL st.s (wrY { st with L := [4, 4, 2, 1, 1, 1] } (2 : Nat) [pB] 1).1 [4, 4, 2, 1, 1, 1] ((2 : Nat) : Int) = _
  have hr2 : roomZ st.s (wrY { st with L := [4, 4, 2, 1, 1, 1] } (2 : Nat) [pB] 1).1 ((2 : Nat) : Int) = 8 - ((j + 1 : Nat) : Int) := by unfold roomZ; rw [w4', h.s]; rfl
  unfold fullL
  rw [hr2, if_neg (show ¬ j + 1 = 0 by omega)]
  by_cases h8 : j + 1 = 8
  ·rw [if_pos (by omega), if_pos h8]; decide
  ·rw [if_neg (by omega), if_neg h8]
theorem d17_in {st : St} (h : D17 8 st) (z : Int) : carL st z = [] := by
 have : IsIn st.S z [] := ⟨.nil, fun p => by rw [h.S]; simp⟩
 unfold carL
 rw [← in_one this]
 rfl
theorem d17_pick {st : St} (h : D17 8 st) : pickM st = 2 := by
 have hl : listZ st.L 3 = [2] := by rw [h.L]; decide
 refine pick_zero h.i2.inv.wf.right (i := 0) (z := 2) (by rw [hl]; rfl) ?_ (fun x hx => by simp at hx)
 rw [live_zero, h.S]
 intro p hp
 cases hp
theorem d17_step {st : St} (h : D17 8 st) : (stepM st).1 = true ∧ stZ (stepM st).2.L 2 = 1 ∧ (atZ (stepM st).2.zs (1 : Nat)).1.length = 1 ∧ pickM (stepM st).2 = -1 ∧ Inv2 (stepM st).2 := by
 have hp := d17_pick h
 have hL : st.L = [4, 4, 3, 1, 1, 1] := by rw [h.L]; rfl
 have hc := d17_in h (pickM st)
 have e1 : stepP st = (0, st) := by
  unfold stepP
  rw [hc]
  unfold putM
  rw [if_pos (show okP st.s [] from fun p hp => by cases hp)]
  exact putFnil _ _
 have hgk : ckE s6 [] = 0 := ckE_zero.2 ⟨⟨s6_right, by first | exact .nil | simp [Rises] | trivial, fun p hp => by cases hp⟩, by decide⟩
 have hsv : svE st.s (1 - st.o) st.S = 0 := by
  rw [h.s, h.S, h.o]
  unfold svE
  rw [if_pos (by decide)]
  exact hgk
 have e2 : stepK st = (0, { st with zs := svZ st.s (flushZ st.zs) 1 st.q [], o := 1 }) := by
  unfold stepK
  rw [e1]
  show markM (flushM st) = _
  unfold markM flushM
  simp only [hsv, if_true]
  rw [h.o, h.S]
  rfl
 have hzl : st.zs.length = 6 := by have := h.i2.inv.len; rw [hL] at this; exact this.symm
 have hcl : clearOk (stepK st).2 2 := by
  rw [e2]
  refine ⟨?_, fun p hp => ?_⟩
  ·show stZ st.L 2 = 3
   rw [hL]; rfl
  ·have : p ∈ st.S := hp
   rw [h.S] at this
   cases this
 have hi : Inv2 (stepM st).2 := step_inv2 h.i2 (fun p hp => by rw [hc] at hp; cases hp)
 have e3 : stepM st = (true, clearM (stepK st).2 2) := by
  unfold stepM
  rw [hp, if_neg (by decide), e1, if_neg (by simp), e2, if_neg (by simp)]
  rw [← e2, decide_eq_true hcl]
 have hLs : (stepM st).2.L = [4, 4, 1, 1, 1, 1] := by
  rw [e3]
  show (clearM (stepK st).2 2).L = _
  unfold clearM
  rw [if_pos hcl, e2]
  show turnZ st.L 2 3 1 = _
  rw [hL]; decide
 refine ⟨by rw [e3], by rw [hLs]; rfl, ?_, ?_, hi⟩
 ·rw [e3]
  show (atZ (clearM (stepK st).2 2).zs (1 : Nat)).1.length = 1
  unfold clearM
  rw [if_pos hcl, e2]
  show (atZ (resetZ (svZ st.s (flushZ st.zs) 1 st.q []) 2) (1 : Nat)).1.length = 1
  have hse : svE st.s 1 [] = 0 := by
   rw [h.s]
   unfold svE
   rw [if_pos (by decide)]
   exact hgk
  unfold svZ
  rw [if_pos hse]
  have hfl : (flushZ st.zs).length = 6 := by unfold flushZ; simpa using hzl
  rw [show (2 : Int) = ((2 : Nat) : Int) from rfl, resetZ_in]
  unfold putZ
  have hk : (ckL st.s st.q []).length = 1 := by rw [ckL_length, h.s]; decide
  unfold atZ
  rw [if_pos (by decide), Int.toNat_natCast, List.getD_eq_getElem?_getD, List.getElem?_set_ne (by decide)]
  rw [show (1 : Int).toNat = 1 from rfl]
  unfold flushZ at hfl ⊢
  rw [List.getElem?_mapIdx, List.getElem?_set_self (by rw [hfl]; decide)]
  simp [fl, hk]
 ·rcases pick_cases (stepM st).2 hi.inv.wf.right with ⟨e, _⟩ | ⟨k, _, hk, h3, _⟩
  ·exact e
  ·rw [hLs] at hk h3
   exfalso
   match k, hk with
   | 0, _ => cases h3
   | 1, _ => cases h3
   | 2, _ => cases h3
   | 3, _ => cases h3
   | 4, _ => cases h3
   | 5, _ => cases h3
end Go.Proofs.YtncnkpnfmbgifaaGreat

/- The example of the chapter on cleaning holds. -/
namespace Go.Proofs.YtncnkpnfmbgifaaGreat
open Go.RowKit
set_option linter.unusedVariables false
set_option maxRecDepth 4000
def Ky (W : World) (k : Bs) (st : St) (c : Nat) (V : World) : Prop := ∃ D, StV D V k st c ∧ Below W.heap.size W V ∧ ∀ x, StO D k x → W.heap.size ≤ x
section
variable {W V V' : World} {k : Bs} {st st' : St} {c c' : Nat}
theorem Ky.bel (h : Ky W k st c V) : Below W.heap.size W V := by obtain ⟨D, _, h2, _⟩ := h; exact h2
theorem Ky.under (h : Ky W k st c V) (hb : Below V.heap.size V V') : Ky W k st c V' := by
 obtain ⟨D, h1, h2, h3⟩ := h
 exact ⟨D, h1.under hb, h2.trans (hb.mono h2.size), h3⟩
theorem Ky.sv {D : Nat → Prop} (h1 : StV D V k st c) (h2 : Below W.heap.size W V) (h3 : ∀ x, StO D k x → W.heap.size ≤ x) (sv : Sv D V k st' c' V') : Ky W k st' c' V' := by
 obtain ⟨D', k1, k2, k3⟩ := sv
 refine ⟨D', k1, h2.trans (k3.below h2.size (fun j hj => h3 j hj)), fun x hx => ?_⟩
 rcases hx with hx | hx
 ·rcases k2 x hx with h | h
  ·exact h3 x (.inl h)
  ·have := h2.size; omega
 ·exact h3 x (.inr hx)
theorem Ky.put (h : Ky W k st c V) {g : Nat} (hb : Below V.heap.size V V') (hg : Blk V' g [.int .u32 1, .int .u64 5, .bool true, .slice none 0 0] 71) (hgV : V.heap.size ≤ g) (hc : c + 1 < 100000) : Calls Tryz.prog 34 #[.pointer (some ⟨k.ps, 0, none⟩), .slice (some ⟨g, 0, none⟩) 1 1] V' fun e w' => e = .returned (.int .u16 (putM st [pB]).1) ∧ Ky W k (putM st [pB]).2 (c + 1) w' := by
 obtain ⟨D, h1, h2, h3⟩ := h
 refine (sput_new h1 pB none 0 0 pB_fits (by omega) (fun _ => ⟨rfl, rfl⟩) (g := g) (B := V.heap.size) hb rfl hg hgV (bin_none _) (fun h => (h rfl).elim) hc).mono ?_
 rintro e w' ⟨rfl, sv⟩
 exact ⟨rfl, Ky.sv h1 h2 h3 sv⟩
theorem Ky.step (h : Ky W k st c V) (hi : Inv2 st) (hz : Sml st.s) (hc : c + 16 < 10000) : Calls Tryz.prog 14 #[.pointer (some ⟨k.ps, 0, none⟩)] V fun e w' => e = .returned (.bool (stepM st).1) ∧ Ky W k (stepM st).2 (c + 16) w' ∧ Inv2 (stepM st).2 := by
 obtain ⟨D, h1, h2, h3⟩ := h
 exact (cstep_of h1 hi hz hc).mono (fun e w' hh => ⟨hh.1, Ky.sv h1 h2 h3 hh.2.1, hh.2.2⟩)
theorem Ky.pick (h : Ky W k st c V) (hi : Inv2 st) (hz : Sml st.s) (hc : c < 10000) : Calls Tryz.prog 12 #[.pointer (some ⟨k.ps, 0, none⟩)] V fun e w' => e = .returned (.int .i64 (pickM st)) ∧ Ky W k st c w' := by
 have hu := fun w' hb => h.under (V' := w') hb
 obtain ⟨D, h1, h2, h3⟩ := h
 exact (cpick_of h1 hi hz hc).mono (fun e w' hh => ⟨hh.1, hu w' hh.2⟩)
theorem Ky.dev (h : Ky W k st c V) : Calls Tryz.prog 25 #[.pointer (some ⟨k.ps, 0, none⟩)] V fun e w' => e = .returned (.pointer (some ⟨k.pd, 0, none⟩)) ∧ w' = V := by
 obtain ⟨D, h1, _⟩ := h; exact sdev_of h1
theorem Ky.seg (h : Ky W k st c V) : Calls Tryz.prog 23 #[.pointer (some ⟨k.ps, 0, none⟩)] V fun e w' => e = .returned (.pointer (some ⟨k.pg, 0, none⟩)) ∧ w' = V := by
 obtain ⟨D, h1, _⟩ := h; exact sseg_of h1
theorem Ky.at (z : Int) (h : Ky W k st c V) : Calls Tryz.prog 26 #[.pointer (some ⟨k.pd, 0, none⟩), .int .i64 z] V fun e w' => e = .returned (.tuple #[.int .i64 ((atZ st.zs z).1.length : Nat), .int .i64 (atZ st.zs z).2]) ∧ Ky W k st c w' := by
 have hu := fun w' hb => h.under (V' := w') hb
 obtain ⟨D, h1, _⟩ := h
 exact (at_of z h1.dv).mono (fun e w' hh => ⟨hh.1, hu w' hh.2⟩)
theorem Ky.state (z : Int) (h : Ky W k st c V) : Calls Tryz.prog 24 #[.pointer (some ⟨k.pg, 0, none⟩), .int .i64 z] V fun e w' => e = .returned (.int .u8 (stZ st.L z)) ∧ w' = V := by
 obtain ⟨D, h1, _⟩ := h
 exact gState_of k.pg k.gg st.s.r st.L z V h1.sg
end
set_option maxHeartbeats 4000000 in
theorem clknown_any (W : World) : Calls Tryz.prog 10 #[] W fun e w' => e = .returned (.bool true) ∧ Below W.heap.size W w' := by
 have hN := snew_of s6 W (by decide)
 have HN : Hid (Calls Tryz.prog 33 #[.agg #[.int .i64 6, .int .i64 8, .int .i64 64, .int .i64 2]] W fun e w' => ∃ k, e = .returned (.pointer (some ⟨k.ps, 0, none⟩)) ∧ Ky W k (st0 s6) 0 w') := by
  refine hN.mono ?_
  rintro e w' ⟨hb, ⟨hn, _⟩ | ⟨_, D, k, rfl, h1, h2⟩⟩
  ·exact (hn s6_right).elim
  ·exact ⟨k, rfl, D, h1, hb, h2⟩
 clear hN
 have hsm : Sml s6 := by unfold Sml s6; simp
 have HSm : Hid (Sml s6) := hsm
 clear hsm
 go_enter Tryz.func10, Tryz.ntmps10
 go_wp2_with (go_at_call 33; refine HN.out.mono ?_; rintro e W1 ⟨k, rfl, hk⟩)
 have H1 : Hid (Ky W k (st0 s6) 0 W1) := hk
 clear hk HN
 go_loopw [2] (fun x wr => ∃ (j : Nat) (st : St), x = .int .i64 j ∧ j ≤ 8 ∧ Ky W k st j wr ∧ D17 j st) (fun x _ => 8 - (intOf x).toNat)
 case atStart => exact ⟨0, st0 s6, rfl, Nat.zero_le _, H1.out, d17_zero⟩
 case round =>
  obtain ⟨j, st, rfl, hj, ky, hd⟩ := hrel
  rcases Nat.lt_or_ge j 8 with hlt | hge
  ·have hj' : (j : Int) < 8 := by omega
   have hwj : IntKind.i64.wrap ((j : Int) + 1) = (j : Int) + 1 := by rw [IntKind.wrap_i64]; omega
   obtain ⟨p0, hd2⟩ := d17_next hd hlt
   have HP : Hid (Calls Tryz.prog 34 #[.pointer (some ⟨k.ps, 0, none⟩), .slice (some ⟨wr.heap.size, 0, none⟩) 1 1] (wr.alloc (.cells #[.int .u32 1, .int .u64 5, .bool true, .slice none 0 0] 71)) fun e w' => e = .returned (.int .u16 0) ∧ Ky W k (putM st [pB]).2 (j + 1) w' ∧ D17 (j + 1) (putM st [pB]).2) := by
    refine (ky.put (g := wr.heap.size) ((Below.refl _ _).alloc (Nat.le_refl _) _) (Blk.new' rfl rfl) (Nat.le_refl _) (by omega)).mono ?_
    rintro e w' ⟨rfl, h2⟩
    rw [p0]
    exact ⟨rfl, h2, hd2⟩
   clear ky hd p0 hd2
   go_wp2_with (go_at_call 34; refine HP.out.mono ?_; rintro e w5 ⟨rfl, h5, d5⟩)
   exact ⟨⟨j + 1, _, by simp, by omega, h5, d5⟩, by simp [intOf]; omega⟩
  ·obtain rfl : j = 8 := by omega
   obtain ⟨s1, s2, s3, s4, s5⟩ := d17_step hd
   have hpk := d17_pick hd
   have hss : (stepM st).2.s = s6 := by rw [stepM_sh]; exact hd.s
   have HD : Hid (Inv2 st ∧ Sml st.s ∧ Inv2 (stepM st).2 ∧ Sml (stepM st).2.s) := ⟨hd.i2, by rw [hd.s]; exact HSm.out, s5, by rw [hss]; exact HSm.out⟩
   have HP : Hid (Calls Tryz.prog 12 #[.pointer (some ⟨k.ps, 0, none⟩)] wr fun e w' => e = .returned (.int .i64 2) ∧ Ky W k st 8 w') := by
    have := ky.pick HD.out.1 HD.out.2.1 (by omega)
    rw [hpk] at this
    exact this
   have HS : Hid (∀ V, Ky W k st 8 V → Calls Tryz.prog 14 #[.pointer (some ⟨k.ps, 0, none⟩)] V fun e w' => e = .returned (.bool true) ∧ Ky W k (stepM st).2 24 w') := fun V hV => by
    have := hV.step HD.out.1 HD.out.2.1 (by omega)
    rw [s1] at this
    exact this.mono (fun e w' hh => ⟨hh.1, hh.2.1⟩)
   have HA : Hid (∀ V, Ky W k (stepM st).2 24 V → Calls Tryz.prog 26 #[.pointer (some ⟨k.pd, 0, none⟩), .int .i64 1] V fun e w' => (∃ u, e = .returned (.tuple #[.int .i64 1, .int .i64 u])) ∧ Ky W k (stepM st).2 24 w') := fun V hV => by
    have := hV.at ((1 : Nat) : Int)
    rw [s3] at this
    exact this.mono (fun e w' hh => ⟨⟨_, hh.1⟩, hh.2⟩)
   have HG : Hid (∀ V, Ky W k (stepM st).2 24 V → Calls Tryz.prog 24 #[.pointer (some ⟨k.pg, 0, none⟩), .int .i64 2] V fun e w' => e = .returned (.int .u8 1) ∧ w' = V) := fun V hV => by
    have := hV.state 2
    rw [s2] at this
    exact this
   have HP2 : Hid (∀ V, Ky W k (stepM st).2 24 V → Calls Tryz.prog 12 #[.pointer (some ⟨k.ps, 0, none⟩)] V fun e w' => e = .returned (.int .i64 (-1)) ∧ Ky W k (stepM st).2 24 w') := fun V hV => by
    have := hV.pick HD.out.2.2.1 HD.out.2.2.2 (by omega)
    rw [s4] at this
    exact this
   clear ky hd s1 s2 s3 s4 s5 hpk hss
   generalize (stepM st).2 = st2 at HS HA HG HP2 HD
   go_wp2_with (first
    | (go_at_call 12; refine HP.out.mono ?_; rintro e w5 ⟨rfl, k5⟩; clear HP)
    | (go_at_call 14; refine (HS.out _ k5).mono ?_; rintro e w6 ⟨rfl, k6⟩)
    | (go_at_call 25; refine k6.dev.mono ?_; rintro e w6 ⟨rfl, rfl⟩)
    | (go_at_call 26; refine (HA.out _ k6).mono ?_; rintro e w7 ⟨⟨u, rfl⟩, k7⟩)
    | (go_at_call 23; refine k7.seg.mono ?_; rintro e w7 ⟨rfl, rfl⟩)
    | (go_at_call 24; refine (HG.out _ k7).mono ?_; rintro e w7 ⟨rfl, rfl⟩)
    | (go_at_call 12; refine (HP2.out _ k7).mono ?_; rintro e w8 ⟨rfl, k8⟩))
   go_ret
   exact ⟨rfl, k8.bel⟩
end Go.Proofs.YtncnkpnfmbgifaaGreat

/- A store and the document's in which some was done. -/
namespace Go.Proofs.YtncnkpnfmbgifaaGreat
open Go.RowKit
set_option linter.unusedVariables false
set_option maxRecDepth 4000
theorem do_q {st : St} (h : Inv2 st) (o : Od) (hf : ∀ p ∈ o.l, p.Fits) (hl : o.l.length ≤ 30) {c : Nat} (hc : c ≤ 100000) (h0 : 0 ≤ st.q ∧ st.q ≤ c) : 0 ≤ (doM st o).q ∧ (doM st o).q ≤ (c + 30 : Nat) := by
 unfold doM
 split
 ·show 0 ≤ st.q ∧ st.q ≤ _
  omega
 ·split
  ·show 0 ≤ st.q ∧ st.q ≤ _
   omega
  ·split
   ·unfold clearM
    split
    ·show 0 ≤ st.q ∧ st.q ≤ _
     omega
    ·omega
   ·unfold putM
    split
    ·rename_i hk
     obtain ⟨m, r, h1, h2, _, _, _, _, h3⟩ := putFmem _ st _ h.inv hk (fun p hp => by obtain ⟨x, hx, rfl⟩ := List.mem_map.1 hp; exact blkP_fits (hf x hx)) (Nat.le_refl _)
     rw [List.length_map] at h1
     rcases h3 with e | ⟨_, e⟩ <;> rw [e] <;> omega
    ·show 0 ≤ st.q ∧ st.q ≤ _
     omega
set_option maxHeartbeats 4000000 in
theorem both_of (s0 : Sh) (a1 : Option Addr) (n1 c1 : Nat) (x1 : List Od) (w V : World) (hz : ShF s0) (hpr : OdsR w a1 n1 x1) (hof : ∀ o ∈ x1, Fits8 o.k ∧ F64 o.z) (hl : n1 ≤ 40 ∧ ∀ o ∈ x1, o.l.length ≤ 30 ∧ ∀ p ∈ o.l, p.d.length ≤ 200) (hV : Below w.heap.size w V) :
  Calls Tryz.prog 11 #[.agg (shL s0).toArray, .slice a1 n1 c1] V fun e w' => Below w.heap.size w w' ∧ ((¬ RightS s0 ∧ e = .returned (.tuple #[.pointer none, .pointer none])) ∨ (RightS s0 ∧ ∃ ps rs st, e = .returned (.tuple #[.pointer (some ⟨ps, 0, none⟩), .pointer (some ⟨rs, 0, none⟩)]) ∧ Bo w.heap.size w ps rs st (n1 * 30) w' ∧ Inv2 st ∧ st.s = s0 ∧ 0 ≤ st.q ∧ st.q ≤ (n1 * 30 : Nat))) := by
 have hb0 : Below w.heap.size w (V.alloc (.cells #[.int .i64 s0.z, .int .i64 s0.zb, .int .i64 s0.b, .int .i64 s0.r] 23)) := hV.trans (((Below.refl V.heap.size V).alloc (Nat.le_refl _) _).mono hV.size)
 obtain ⟨q, hq⟩ : ∃ q, q = V.heap.size := ⟨_, rfl⟩
 have bs0 : Blk (V.alloc (.cells #[.int .i64 s0.z, .int .i64 s0.zb, .int .i64 s0.b, .int .i64 s0.r] 23)) q (shC s0) 23 := Blk.new' hq.symm rfl
 have HO : Hid (∀ o ∈ x1, Fits8 o.k ∧ F64 o.z) := hof
 have HH : Hid (OdsR w a1 n1 x1 ∧ ShF s0) := ⟨hpr, hz⟩
 have HL : Hid (n1 ≤ 40 ∧ ∀ o ∈ x1, o.l.length ≤ 30 ∧ ∀ p ∈ o.l, p.d.length ≤ 200) := hl
 have HN : Hid (∀ V, Below w.heap.size w V → Blk V q (shC s0) 23 → Calls Tryz.prog 33 #[.agg #[.int .i64 s0.z, .int .i64 s0.zb, .int .i64 s0.b, .int .i64 s0.r]] V fun e w' => (Below w.heap.size w w' ∧ Blk w' q (shC s0) 23) ∧ ((¬ RightS s0 ∧ e = .returned (.pointer none)) ∨ (RightS s0 ∧ ∃ D k, e = .returned (.pointer (some ⟨k.ps, 0, none⟩)) ∧ StV D w' k (st0 s0) 0 ∧ Below V.heap.size V w' ∧ ∀ x, StO D k x → V.heap.size ≤ x))) := fun V hb hs => by
  refine (snew_of s0 V (by have := HH.out.2; exact this.1.1)).mono ?_
  rintro e w' ⟨hb', hh⟩
  refine ⟨⟨hb.trans (hb'.mono hb.size), hs.below hb' hs.lt⟩, ?_⟩
  rcases hh with h | ⟨hr, D, k, rfl, h1, h2⟩
  ·exact .inl h
  ·exact .inr ⟨hr, D, k, rfl, h1, hb', h2⟩
 have HDN : Hid (∀ V, Below w.heap.size w V → Blk V q (shC s0) 23 → Calls Tryz.prog 35 #[.agg #[.int .i64 s0.z, .int .i64 s0.zb, .int .i64 s0.b, .int .i64 s0.r]] V fun e w' => (Below w.heap.size w w' ∧ Blk w' q (shC s0) 23) ∧ ((¬ RightS s0 ∧ e = .returned (.pointer none)) ∨ (RightS s0 ∧ ∃ D M k, e = .returned (.pointer (some ⟨k.ps, 0, none⟩)) ∧ SdV D M w' k (st0 s0) ∧ Below V.heap.size V w' ∧ ∀ x, SdO D M k x → V.heap.size ≤ x))) := fun V hb hs => by
  refine (dsnew_of s0 V (by have := HH.out.2; exact this.1.1)).mono ?_
  rintro e w' ⟨hb', hh⟩
  refine ⟨⟨hb.trans (hb'.mono hb.size), hs.below hb' hs.lt⟩, ?_⟩
  rcases hh with h | ⟨hr, D, M, k, rfl, h1, h2⟩
  ·exact .inl h
  ·exact .inr ⟨hr, D, M, k, rfl, h1, hb', h2⟩
 have HB0 : Hid (Below w.heap.size w (V.alloc (.cells #[.int .i64 s0.z, .int .i64 s0.zb, .int .i64 s0.b, .int .i64 s0.r] 23)) ∧ Blk (V.alloc (.cells #[.int .i64 s0.z, .int .i64 s0.zb, .int .i64 s0.b, .int .i64 s0.r] 23)) q (shC s0) 23) := ⟨hb0, bs0⟩
 have sh0 : (V.alloc (.cells #[.int .i64 s0.z, .int .i64 s0.zb, .int .i64 s0.b, .int .i64 s0.r] 23)).cell? ⟨V.heap.size, 0, none⟩ = some (.int .i64 s0.z) := by rw [← hq]; exact bs0.cell 0
 have sh1 : (V.alloc (.cells #[.int .i64 s0.z, .int .i64 s0.zb, .int .i64 s0.b, .int .i64 s0.r] 23)).cell? ⟨V.heap.size, 1, none⟩ = some (.int .i64 s0.zb) := by rw [← hq]; exact bs0.cell 1
 have sh2 : (V.alloc (.cells #[.int .i64 s0.z, .int .i64 s0.zb, .int .i64 s0.b, .int .i64 s0.r] 23)).cell? ⟨V.heap.size, 2, none⟩ = some (.int .i64 s0.b) := by rw [← hq]; exact bs0.cell 2
 have sh3 : (V.alloc (.cells #[.int .i64 s0.z, .int .i64 s0.zb, .int .i64 s0.b, .int .i64 s0.r] 23)).cell? ⟨V.heap.size, 3, none⟩ = some (.int .i64 s0.r) := by rw [← hq]; exact bs0.cell 3
 have hn1 := hpr.2.1
 unfold shL
 clear hpr hof hl hV hb0 bs0 hz
 by_cases hr : RightS s0
 ·have HN2 : Hid (Calls Tryz.prog 33 #[.agg #[.int .i64 s0.z, .int .i64 s0.zb, .int .i64 s0.b, .int .i64 s0.r]] (V.alloc (.cells #[.int .i64 s0.z, .int .i64 s0.zb, .int .i64 s0.b, .int .i64 s0.r] 23)) fun e w' => ∃ ps, e = .returned (.pointer (some ⟨ps, 0, none⟩)) ∧ Blk w' q (shC s0) 23 ∧ Calls Tryz.prog 35 #[.agg #[.int .i64 s0.z, .int .i64 s0.zb, .int .i64 s0.b, .int .i64 s0.r]] w' fun e w2 => ∃ rs, e = .returned (.pointer (some ⟨rs, 0, none⟩)) ∧ Bo w.heap.size w ps rs (st0 s0) 0 w2) := by
   have hb := HB0.out.1
   refine (HN.out _ HB0.out.1 HB0.out.2).mono ?_
   rintro e w' ⟨⟨hb', hs'⟩, ⟨hn, _⟩ | ⟨_, D, k, rfl, h1, b1, g1⟩⟩
   ·exact (hn hr).elim
   ·refine ⟨k.ps, rfl, hs', (HDN.out w' hb' hs').mono ?_⟩
    rintro e w2 ⟨_, ⟨hn, _⟩ | ⟨_, D2, M2, k2, rfl, h2, b2, g2⟩⟩
    ·exact (hn hr).elim
    ·exact ⟨k2.ps, rfl, bo_new hb h1 b1 g1 h2 b2 g2⟩
  have HR : Hid (RightS s0) := hr
  clear hr HN HDN
  go_enter Tryz.func11, Tryz.ntmps11
  go_wp2_with (first
   | (go_at_call 33; refine HN2.out.mono ?_; rintro e W3 ⟨ps, rfl, bs3, hn3⟩; clear sh0 sh1 sh2 sh3; have sh0 : W3.cell? ⟨V.heap.size, 0, none⟩ = some (.int .i64 s0.z) := by { rw [← hq]; exact bs3.cell 0 }; have sh1 : W3.cell? ⟨V.heap.size, 1, none⟩ = some (.int .i64 s0.zb) := by { rw [← hq]; exact bs3.cell 1 }; have sh2 : W3.cell? ⟨V.heap.size, 2, none⟩ = some (.int .i64 s0.b) := by { rw [← hq]; exact bs3.cell 2 }; have sh3 : W3.cell? ⟨V.heap.size, 3, none⟩ = some (.int .i64 s0.r) := by { rw [← hq]; exact bs3.cell 3 })
   | (go_at_call 35; refine hn3.mono ?_; rintro e W4 ⟨rs, rfl, hbo4⟩))
  have H4 : Hid (Bo w.heap.size w ps rs (st0 s0) 0 W4) := hbo4
  clear sh0 sh1 sh2 sh3 bs3 hbo4 HN2 HB0
  go_loopw [8] (fun x wr => ∃ (i : Nat) (st : St), x = .int .i64 i ∧ i ≤ n1 ∧ Bo w.heap.size w ps rs st (i * 30) wr ∧ Inv2 st ∧ st.s = s0 ∧ 0 ≤ st.q ∧ st.q ≤ (i * 30 : Nat)) (fun x _ => n1 - (intOf x).toNat)
  case atStart => exact ⟨0, st0 s0, rfl, Nat.zero_le _, H4.out, st0_inv2 HR.out, rfl, Int.le_refl _, Int.le_refl _⟩
  case round =>
   obtain ⟨i, st, rfl, hi, hbo, hin, hss, hqq⟩ := hrel
   have hn40 : n1 ≤ 40 := HL.out.1
   rcases Nat.lt_or_ge i n1 with hlt | hge
   ·have hi' : (i : Int) < n1 := by omega
    have hwi : IntKind.i64.wrap ((i : Int) + 1) = (i : Int) + 1 := by rw [IntKind.wrap_i64]; omega
    obtain ⟨o, b0, off, ho, rfl, A, N, C, hcl, hpts, hNC, _⟩ := HH.out.1.at hlt
    have hol := HL.out.2 o (List.mem_of_getElem? ho)
    have hNl : o.l.length = N := hpts.1
    have hN30 : N ≤ 30 := by rw [← hNl]; exact hol.1
    have hptw : PtsIn (fun x => x < w.heap.size) w A N o.l := hpts.pts (by omega) (fun p hp => by have := hol.2 p hp; omega)
    have HCl : Hid (∀ V, Below w.heap.size w V → V.cell? ⟨b0, off + i * 3, none⟩ = some (.int .u8 o.k) ∧ V.cell? ⟨b0, off + i * 3 + 1, none⟩ = some (.slice A N C) ∧ V.cell? ⟨b0, off + i * 3 + 2, none⟩ = some (.int .i64 o.z)) := fun V hb => ⟨(hb.cell (old_block (hcl 0 _ rfl))).trans (hcl 0 _ rfl), (hb.cell (old_block (hcl 1 _ rfl))).trans (hcl 1 _ rfl), (hb.cell (old_block (hcl 2 _ rfl))).trans (hcl 2 _ rfl)⟩
    obtain ⟨u0, u1, u2⟩ := HCl.out wr hbo.bel
    have HDo : Hid (Calls Tryz.prog 36 #[.pointer (some ⟨ps, 0, none⟩), .pointer (some ⟨rs, 0, none⟩), .agg #[.int .u8 o.k, .slice A N C, .int .i64 o.z]] wr fun e w' => e = .returned (.int .i64 1) ∧ Bo w.heap.size w ps rs (doM st o) ((i + 1) * 30) w') := by
     refine (Does_of hbo hin.o (by rw [hss]; exact HR.out) o A N C (hptw.out (below_out' (O := fun j => w.heap.size ≤ j) hbo.bel (fun j h _ => h)) (fun x hx => by omega)) (HO.out o (List.mem_of_getElem? ho)).1 (by omega)).mono ?_
     rintro e w' ⟨rfl, h2⟩
     exact ⟨rfl, h2.mono (by omega)⟩
    have HI2 : Hid (Inv2 (doM st o) ∧ (doM st o).s = s0 ∧ 0 ≤ (doM st o).q ∧ (doM st o).q ≤ ((i + 1) * 30 : Nat)) := ⟨do_inv2 hin o hptw.fits, by rw [do_sh]; exact hss, by have := do_q hin o hptw.fits hol.1 (c := i * 30) (by omega) hqq; rw [Nat.add_mul]; exact this⟩
    generalize doM st o = st2 at HDo HI2
    clear hbo hin hss hqq hptw hpts hcl ho hol hNl
    go_wp2_with (first
     | (go_at_call 36; refine HDo.out.mono ?_; rintro e V1 ⟨rfl, hb1⟩; have HB2 : Hid (Bo w.heap.size w ps rs st2 ((i + 1) * 30) V1) := hb1; clear u0 u1 u2 HDo hb1))
    exact ⟨⟨i + 1, st2, by simp, by omega, HB2.out, HI2.out.1, HI2.out.2.1, HI2.out.2.2⟩, by simp [intOf]; omega⟩
   ·obtain rfl : i = n1 := by omega
    have HF : Hid (Bo w.heap.size w ps rs st (i * 30) wr ∧ Inv2 st ∧ st.s = s0 ∧ 0 ≤ st.q ∧ st.q ≤ (i * 30 : Nat)) := ⟨hbo, hin, hss, hqq⟩
    clear hbo hin hss hqq
    go_wp2
    go_ret2
    exact ⟨HF.out.1.bel, .inr ⟨HR.out, ps, rs, st, rfl, HF.out⟩⟩
 ·have HN2 : Hid (Calls Tryz.prog 33 #[.agg #[.int .i64 s0.z, .int .i64 s0.zb, .int .i64 s0.b, .int .i64 s0.r]] (V.alloc (.cells #[.int .i64 s0.z, .int .i64 s0.zb, .int .i64 s0.b, .int .i64 s0.r] 23)) fun e w' => e = .returned (.pointer none) ∧ Blk w' q (shC s0) 23 ∧ Calls Tryz.prog 35 #[.agg #[.int .i64 s0.z, .int .i64 s0.zb, .int .i64 s0.b, .int .i64 s0.r]] w' fun e w2 => e = .returned (.pointer none) ∧ Below w.heap.size w w2) := by
   refine (HN.out _ HB0.out.1 HB0.out.2).mono ?_
   rintro e w' ⟨⟨hb', hs'⟩, ⟨_, rfl⟩ | ⟨hn, _⟩⟩
   ·refine ⟨rfl, hs', (HDN.out w' hb' hs').mono ?_⟩
    rintro e w2 ⟨⟨hb2, _⟩, ⟨_, rfl⟩ | ⟨hn, _⟩⟩
    ·exact ⟨rfl, hb2⟩
    ·exact (hr hn).elim
   ·exact (hr hn).elim
  have HR : Hid (¬ RightS s0) := hr
  clear hr HN HDN
  go_enter Tryz.func11, Tryz.ntmps11
  go_wp2_with (first
   | (go_at_call 33; refine HN2.out.mono ?_; rintro e W3 ⟨rfl, bs3, hn3⟩; clear sh0 sh1 sh2 sh3; have sh0 : W3.cell? ⟨V.heap.size, 0, none⟩ = some (.int .i64 s0.z) := by { rw [← hq]; exact bs3.cell 0 }; have sh1 : W3.cell? ⟨V.heap.size, 1, none⟩ = some (.int .i64 s0.zb) := by { rw [← hq]; exact bs3.cell 1 }; have sh2 : W3.cell? ⟨V.heap.size, 2, none⟩ = some (.int .i64 s0.b) := by { rw [← hq]; exact bs3.cell 2 }; have sh3 : W3.cell? ⟨V.heap.size, 3, none⟩ = some (.int .i64 s0.r) := by { rw [← hq]; exact bs3.cell 3 })
   | (go_at_call 35; refine hn3.mono ?_; rintro e W4 ⟨rfl, hb4⟩))
  clear sh0 sh1 sh2 sh3 bs3
  go_loopw [8] (fun x wr => x = .int .i64 0 ∧ Below w.heap.size w wr) (fun x _ => 0)
  case atStart => exact ⟨rfl, hb4⟩
  case round =>
   obtain ⟨rfl, hb⟩ := hrel
   clear hb4
   by_cases hn : n1 = 0
   ·subst hn
    go_wp2
    go_ret2
    exact ⟨hb, .inl ⟨HR.out, rfl⟩⟩
   ·have hn' : (0 : Int) < (n1 : Int) := by omega
    go_wp2
    go_ret2
    exact ⟨hb, .inl ⟨HR.out, rfl⟩⟩
end Go.Proofs.YtncnkpnfmbgifaaGreat

/- What the law that cleaning changes nothing of what is told takes. -/
namespace Go.Proofs.YtncnkpnfmbgifaaGreat
open Go.RowKit
set_option linter.unusedVariables false
set_option maxRecDepth 4000
section
variable {D D0 : Nat → Prop} {W V w w' : World} {k : Bs} {st : St} {c : Nat}
theorem car_fits (h : StV D W k st c) (hi : Inv2 st) (hz : Sml st.s) (hc : c + 16 < 10000) : ∀ p ∈ carL st (pickM st), p.Fits := by
 obtain ⟨e, w', fr, ⟨_, _, h3⟩, _⟩ := carry_of h hi (pickM st) (fun L hL => by have := car_len hi hL; have := hz.2; omega) hc []
 exact h3
theorem cstep_sv (h : Sv D0 V k st c w) (hi : Inv2 st) (hz : Sml st.s) (hc : c + 16 < 10000) :
  Calls Tryz.prog 14 #[.pointer (some ⟨k.ps, 0, none⟩)] w fun e w' => (∃ b, e = .returned (.bool b)) ∧ Sv D0 V k (stepM st).2 (c + 16) w' ∧ Inv2 (stepM st).2 ∧ memT (stepM st).2 = memT st := by
 obtain ⟨D, hv, hD, ho⟩ := h
 refine (cstep_of hv hi hz hc).mono ?_
 rintro e w' ⟨rfl, h2, h3⟩
 exact ⟨⟨_, rfl⟩, Sv.next hD ho h2, h3, step_mem hi (car_fits hv hi hz hc)⟩
theorem mall_st (h : StV D W k st c) (hc : c < 100000) : Calls Tryz.prog 20 #[.pointer (some ⟨k.pm, 0, none⟩)] W fun e w' => ∃ a cc, e = .returned (.slice a st.S.length cc) ∧ PlIn w' a st.S.length st.S ∧ (∀ g, a = some ⟨g, 0, none⟩ → 0 < st.S.length → W.heap.size ≤ g) ∧ Below W.heap.size W w' := by
 refine (mAll_of k.pm k.b1 k.b2 st.S c W h.mp hc).mono ?_
 rintro e w' ⟨a, n, cc, rfl, ow, hb⟩
 obtain rfl : st.S.length = n := (own_pl ow).1
 refine ⟨a, cc, rfl, own_pl ow, fun g hg h0 => ?_, hb⟩
 refine (ow.lt g ?_).1
 rcases ow.2 with ⟨hv, hn⟩ | ⟨g', cap, cur, hv, _⟩
 ·simp only [Value.slice.injEq] at hv; rw [hv.1] at hg; cases hg
 ·simp only [Value.slice.injEq] at hv; rw [hv.1] at hg ⊢; cases hg; rfl
theorem sget_st (h : StV D W k st c) (n : Pr) (hn : FitsN n) (hp : Plc st.zs st.S) :
  Calls Tryz.prog 21 #[.pointer (some ⟨k.ps, 0, none⟩), .int .u32 n.1, .int .u64 n.2] W fun e w' => ∃ a cc, e = .returned (.tuple #[.slice a ((memT st n).getD []).length cc, .bool (memT st n).isSome]) ∧ BkAt (fun x => W.heap.size ≤ x) w' (.slice a ((memT st n).getD []).length cc) ((memT st n).getD []) ∧ Below W.heap.size W w' := by
 refine (sget_of h n hn hp).mono ?_
 rintro e w1 ⟨v, rfl, hv, hb⟩
 obtain ⟨a, cc, rfl⟩ := own_slice hv.1
 exact ⟨a, cc, rfl, hv, hb⟩
end
def kds (M : Pr → Option (List Int)) (S : List Pl) : List (List Int) := S.map fun x => (M x.1).getD []
def Kpt (q : Nat) (V : World) (a : Option Addr) (S : List Pl) (av : Option Addr) (cv : Nat) (M : Pr → Option (List Int)) : Prop := PlIn V a S.length S ∧ (∀ g, a = some ⟨g, 0, none⟩ → 0 < S.length → q ≤ g) ∧ RowAt (fun j => q ≤ j) V (.slice av S.length cv) (kds M S)
section
variable {q : Nat} {V V' : World} {a av : Option Addr} {S : List Pl} {cv : Nat} {M : Pr → Option (List Int)}
theorem Kpt.below (h : Kpt q V a S av cv M) (hb : Below V.heap.size V V') : Kpt q V' a S av cv M := by
 obtain ⟨h1, h2, h3⟩ := h
 exact ⟨h1.below hb, h2, h3.out (below_out Non hb) (fun _ _ => id) (fun _ _ _ _ => id)⟩
theorem Kpt.out {O : Nat → Prop} (h : Kpt q V a S av cv M) (ho : Out O V V') (hO : ∀ x, O x → x < q) : Kpt q V' a S av cv M := by
 obtain ⟨h1, h2, h3⟩ := h
 refine ⟨h1.out ho (fun g hg h0 hx => by have := h2 g hg h0; have := hO g hx; omega), h2, ?_⟩
 obtain ⟨vs, r1, r2, r3, r4⟩ := h3
 exact RowAt.out ⟨vs, r1, r2, r3, r4⟩ ho (fun r hr hx => by have := r2 r hr; have := hO r hx; simp at *; omega) (fun c cur hc _ hx => by have := hO c hx; simp at *; omega)
theorem Kpt.at (h : Kpt q V a S av cv M) (hs : Short (kds M S)) {i : Nat} (hi : i < S.length) : ∃ (x : Pl) (g b off : Nat) (A : Option Addr) (L C : Nat), S[i]? = some x ∧ a = some ⟨g, 0, none⟩ ∧ av = some ⟨b, off, none⟩ ∧ BIn V A L ((M x.1).getD []) ∧ V.cell? ⟨g, i * 4, none⟩ = some (.int .u32 x.1.1) ∧ V.cell? ⟨g, i * 4 + 1, none⟩ = some (.int .u64 x.1.2) ∧ V.cell? ⟨b, off + i, none⟩ = some (.slice A L C) := by
 obtain ⟨h1, h2, h3⟩ := h
 obtain ⟨x, g, hx, ha, t0, t1, _, _⟩ := h1.at hi
 obtain ⟨b, off, A, L, C, hav, hc, hb, _⟩ := (h3.bsin hs).at (i := i) (D := (M x.1).getD []) (by unfold kds; simp [hx])
 exact ⟨x, g, b, off, A, L, C, hx, ha, hav, hb, t0, t1, hc⟩
end
theorem kds_short {st : St} (h : Inv st) (S : List Pl) : Short (kds (memT st) S) := by
 intro D hD
 unfold kds at hD
 obtain ⟨x, _, rfl⟩ := List.mem_map.1 hD
 have := mem_size h x.1
 omega
theorem bo_st {B : Nat} {W w : World} {ps rs : Nat} {st : St} {m : Nat} (h : Bo B W ps rs st m w) : ∃ D k, k.ps = ps ∧ StV D w k st m ∧ (∀ x, StO D k x → B ≤ x) ∧ Below B W w := by
 obtain ⟨D, k, D', M', k', h1, h2, h3, h4, h5, h6, h7, h8, h9⟩ := h
 exact ⟨D, k, h1, h3, h5, h8⟩
end Go.Proofs.YtncnkpnfmbgifaaGreat
