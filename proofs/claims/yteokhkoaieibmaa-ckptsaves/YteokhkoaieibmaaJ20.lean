/- Texts of this seat, one behind the other: DkSave, ZRRd, DkLoad, DkTwo. -/
import Derived.Test.YteokhkoaieibmaaJ14
import Derived.Test.YteokhkoaieibmaaJ17
import Derived.Test.YteokhkoaieibmaaJ19
import Derived.Deep.DeepCutAuto
import Derived.Test.YteokhkoaieibmaaJ12
import Derived.Test.YteokhkoaieibmaaJ18
/- What one call of the document's own Save does. -/
namespace Go.Proofs.Yteokhkoaieibmaa
open Go.RowKit Go.Shelf
set_option linter.unusedVariables false
set_option maxRecDepth 4000

theorem rShape_of {O : Nat → Prop} {W : World} {p : Nat} {s : Sh} {zs : List Zn} (hd : Dv 108 O W p s zs) :
    Calls Try.prog 52 #[.pointer (some ⟨p, 0, none⟩)] W fun e w' => e = .returned (.agg (shL s).toArray) ∧ Below W.heap.size W w' := by
  obtain ⟨g, c, vs, hv⟩ := hd
  obtain ⟨q, hq⟩ : ∃ q, q = W.heap.size := ⟨_, rfl⟩
  have hb : Blk (W.alloc (.cells #[.int .i64 0, .int .i64 0, .int .i64 0, .int .i64 0] 23)) q [.int .i64 0, .int .i64 0, .int .i64 0, .int .i64 0] 23 := Blk.new' hq.symm rfl
  have hbel : Below q W (W.alloc (.cells #[.int .i64 0, .int .i64 0, .int .i64 0, .int .i64 0] 23)) := (Below.refl _ _).alloc (by omega) _
  have hv' := hv.under (by rw [← hq]; exact hbel)
  rw [← hq]
  go_enter Try.func52, Try.ntmps52
  go_upto_region 1 with fail
  rw [← hq]
  generalize hW1 : World.alloc _ _ = W1 at *
  obtain ⟨c0, c1, c2, c3, c4⟩ := hv'.pcell
  have e0 : W1.cell? ⟨q, 0, none⟩ = some (.int .i64 0) := hb.cell 0
  have e1 : W1.cell? ⟨q, 1, none⟩ = some (.int .i64 0) := hb.cell 1
  have e2 : W1.cell? ⟨q, 2, none⟩ = some (.int .i64 0) := hb.cell 2
  have e3 : W1.cell? ⟨q, 3, none⟩ = some (.int .i64 0) := hb.cell 3
  have f0 := hb.frozen 0
  have f1 := hb.frozen 1
  have f2 := hb.frozen 2
  have f3 := hb.frozen 3
  have HB : Hid (Blk W1 q [.int .i64 0, .int .i64 0, .int .i64 0, .int .i64 0] 23 ∧ Below q W W1) := ⟨hb, hbel⟩
  clear hb hbel hv hv' hW1 hq
  go_wp2
  refine bodyPost_ret (results_cell_one (p := 2) (ty := 23) rfl _ _ q [.int .i64 s.z, .int .i64 s.zb, .int .i64 s.b, .int .i64 s.r] _ _ rfl ((((HB.out.1.set 0 _).set 1 _).set 2 _).set 3 _) Try.underlying23 rfl Try.info_shape) rfl ⟨rfl, ?_⟩
  exact (((HB.out.2.setCell (p := ⟨q, 0, none⟩) (Nat.le_refl _) _).setCell (p := ⟨q, 1, none⟩) (Nat.le_refl _) _).setCell (p := ⟨q, 2, none⟩) (Nat.le_refl _) _).setCell (p := ⟨q, 3, none⟩) (Nat.le_refl _) _
set_option maxHeartbeats 4000000 in
theorem dkSave_of (slot seq : Int) (A : Option Addr) (n C : Nat) (ps : List Pl) {O : Nat → Prop} {W : World} {p : Nat} {s : Sh} {zs : List Zn} (hd : Dv 108 O W p s zs) (hw : Wf s zs) (hs : FitsU seq) (hk : KIn W A n ps) (hn : n ≤ 100000000) :
    Calls Try.prog 25 #[.pointer (some ⟨p, 0, none⟩), .int .i64 slot, .agg #[.int .u64 seq, .slice A n C]] W (Saved 108 .i64 O W p s zs slot seq ps) := by
  obtain ⟨q, hq⟩ : ∃ q, q = W.heap.size := ⟨_, rfl⟩
  have H : Hid (Dv 108 O W p s zs ∧ Wf s zs ∧ FitsU seq ∧ KIn W A n ps ∧ n ≤ 100000000 ∧ q = W.heap.size) := ⟨hd, hw, hs, hk, hn, hq⟩
  have HW : Hid (Blk (W.alloc (.cells #[.int .u64 seq, .slice A n C] 27)) q [.int .u64 seq, .slice A n C] 27 ∧ Below W.heap.size W (W.alloc (.cells #[.int .u64 seq, .slice A n C] 27))) := ⟨Blk.new' hq.symm rfl, (Below.refl _ _).alloc (Nat.le_refl _) _⟩
  clear hd hw hs hk hn
  by_cases hsl : 0 ≤ slot ∧ slot < 2
  · obtain ⟨i, rfl⟩ : ∃ i : Nat, slot = i := ⟨slot.toNat, by omega⟩
    have hi2 : (i : Int) < 2 := hsl.2
    obtain ⟨E, hE⟩ : ∃ E, E = ckE s ps := ⟨_, rfl⟩
    have HE : Hid (E = ckE s ps ∧ svE s i ps = E ∧ i < 2) := ⟨hE, by unfold svE; rw [if_pos hsl, hE], by omega⟩
    clear hE hsl
    go_enter Try.func25, Try.ntmps25
    go_upto_region 1 with fail
    rw [← hq]
    clear hq
    generalize hW1 : World.alloc W _ = W1 at HW ⊢
    clear hW1
    go_cut [15] (fun v X => v = .bool false ∧ X = W1)
    case first =>
      have h01 : i = 0 ∨ i = 1 := by have := HE.out.2.2; omega
      rcases h01 with rfl | rfl
      · go_wp2_with fail
        go_meet
        exact ⟨rfl, rfl⟩
      · go_wp2_with fail
        go_meet
        exact ⟨rfl, rfl⟩
    case rest =>
    obtain ⟨rfl, hX⟩ := hcut
    replace hX := hX.symm
    subst hX
    go_upto_region 3 with fail
    have c0 : W1.cell? ⟨q, 0, none⟩ = some (.int .u64 seq) := HW.out.1.cell 0
    have c1 : W1.cell? ⟨q, 1, none⟩ = some (.slice A n C) := HW.out.1.cell 1
    have HSh : Hid (∀ X, Below W1.heap.size W1 X → Calls Try.prog 52 #[.pointer (some ⟨p, 0, none⟩)] X fun e Y => e = .returned (.agg (shL s).toArray) ∧ Below W1.heap.size W1 Y ∧ Y.cell? ⟨q, 0, none⟩ = some (.int .u64 seq) ∧ Y.cell? ⟨q, 1, none⟩ = some (.slice A n C)) := by
      intro X hX
      refine (rShape_of (kdv_under (kdv_under H.out.1 HW.out.2) hX)).mono ?_
      rintro e Y ⟨rfl, hY⟩
      have hb := hX.trans (hY.mono hX.size)
      have kb := HW.out.1.below hb HW.out.1.lt
      exact ⟨rfl, hb, kb.cell 0, kb.cell 1⟩
    have HEn : Hid (∀ X, Below W1.heap.size W1 X → Calls Try.prog 10 #[.agg (shL s).toArray, .agg #[.int .u64 seq, .slice A n C]] X fun e Z => ∃ av nv cv, e = .returned (.tuple #[.slice av nv cv, .int .i64 E]) ∧ RowAt (fun j => W.heap.size ≤ j ∧ j < Z.heap.size) Z (.slice av nv cv) (ckO s seq ps) ∧ Below W.heap.size W Z ∧ Z.cell? ⟨q, 0, none⟩ = some (.int .u64 seq) ∧ Z.cell? ⟨q, 1, none⟩ = some (.slice A n C)) := by
      intro X hX
      have hbX := HW.out.2.trans (hX.mono HW.out.2.size)
      refine (dkEncode_of s seq A n C ps X (by have := H.out.2.1.right.1; omega) H.out.2.2.1 (H.out.2.2.2.1.below hbX) H.out.2.2.2.2.1).mono ?_
      rintro e Z ⟨v, rfl, rZ, bZ⟩
      obtain ⟨av, cv, rfl⟩ := rZ.slice
      have hb := hX.trans (bZ.mono hX.size)
      have kb := HW.out.1.below hb HW.out.1.lt
      exact ⟨av, _, cv, by rw [HE.out.1], rZ.mono (fun c hc hlt => ⟨Nat.le_trans hbX.size hc, hlt⟩), hbX.trans (bZ.mono hbX.size), kb.cell 0, kb.cell 1⟩
    go_region_held3 (fun X => X.cell? ⟨q, 0, none⟩ = some (.int .u64 seq) ∧ X.cell? ⟨q, 1, none⟩ = some (.slice A n C)) (first | exact ⟨c0, c1⟩ | exact ⟨d0, d1⟩ | exact ⟨e0, e1⟩)
      (first
      | (go_simp; go_at_call 10; refine (HEn.out _ (by exact bY)).mono ?_; rintro e Z ⟨av, nv, cv, rfl, rZ, bZ, e0, e1⟩)
      | (go_simp; go_at_call 52; refine (HSh.out _ (by exact (Below.refl _ _).drew)).mono ?_; rintro e Y ⟨rfl, bY, d0, d1⟩))
    all_goals (
      have HZ : Hid (RowAt (fun j => W.heap.size ≤ j ∧ j < Z.heap.size) Z (.slice av nv cv) (ckO s seq ps) ∧ Below W.heap.size W Z) := ⟨rZ, bZ⟩
      clear rZ bZ e0 e1 d0 d1 bY HEn HSh c0 c1
      by_cases hE0 : E = 0
      · subst hE0
        have hck : ckE s ps = 0 := HE.out.1.symm
        obtain ⟨ls, hls⟩ : ∃ ls, ls = ckL s seq ps := ⟨_, rfl⟩
        have hO : ckO s seq ps = ls := by unfold ckO; rw [if_pos hck, hls]
        have hsz := ckL_size (seq := seq) hck
        have hsh := ckL_short (seq := seq) hck
        rw [← hls] at hsz hsh
        have hlz : (ls.length : Int) ≤ s.zb := by rw [hls, ckL_length]; exact (ckE_zero.1 hck).2
        have hnv : nv = ls.length := by obtain ⟨_, _, e⟩ := HZ.out.1.slice; cases e; rw [hO]
        have hiz : i < zs.length := by have h1 := H.out.2.1.len; have h2 := H.out.2.1.right.1; have := HE.out.2.2; omega
        have hd1 : Dv 108 (fun x => O x ∧ x < W.heap.size) Z p s zs := kdv_under H.out.1.there HZ.out.2
        have HL : Hid (ls = ckL s seq ps ∧ ckO s seq ps = ls ∧ (∀ D ∈ ls, (D.length : Int) = s.b) ∧ Short ls ∧ (ls.length : Int) ≤ s.zb ∧ nv = ls.length ∧ i < zs.length ∧ RowAt (fun j => W.heap.size ≤ j ∧ j < Z.heap.size) Z (.slice av nv cv) ls ∧ Below W.heap.size W Z) := ⟨hls, hO, hsz, hsh, hlz, hnv, hiz, by rw [← hO]; exact HZ.out.1, HZ.out.2⟩
        have HD : Hid (Dv 108 (fun x => O x ∧ x < W.heap.size) Z p s zs) := hd1
        have hnv4 : nv ≤ 4096 := by have h1 := H.out.2.1.right.2.2.2.1; omega
        clear hls hO hsz hsh hlz hnv hiz hd1 hck HZ
        go_upto_region 7 with (go_at_call 54; refine (rReset_of (i : Int) HD.out).mono ?_; rintro e V ⟨rfl, sV⟩)
        rw [resetZ_in] at sV
        have HV : Hid (SvSt 108 (fun x => O x ∧ x < W.heap.size) Z p s (zs.set i (ls.take 0, 0)) V) := by
          have := SvSt.step (O := fun x => O x ∧ x < W.heap.size) (W := Z) (fun x h => .inl h) (Out.refl _ _) sV
          show SvSt 108 (fun x => O x ∧ x < W.heap.size) Z p s (zs.set i (ls.take 0, 0)) V
          simpa using this
        clear sV
        go_wp2
        go_loopw [9] (fun x wr => ∃ k : Nat, x = .int .i64 k ∧ k ≤ nv ∧ SvSt 108 (fun x => O x ∧ x < W.heap.size) Z p s (zs.set i (ls.take k, 0)) wr) (fun x _ => nv - (intOf x).toNat)
        case atStart => exact ⟨0, rfl, Nat.zero_le _, HV.out⟩
        case round =>
          obtain ⟨k, rfl, hk, O', hdk, hOk, hok⟩ := hrel
          rcases Nat.lt_or_ge k nv with hlt | hge
          · obtain ⟨D, hD⟩ : ∃ D, ls[k]? = some D := ⟨ls[k]'(by have := HL.out.2.2.2.2.2.1; omega), by simp⟩
            have row := HL.out.2.2.2.2.2.2.2.1.out hok (fun r e h => by obtain ⟨_, _, r2, _⟩ := HL.out.2.2.2.2.2.2.2.1; have := r2 r e; omega) (fun c _ hc _ h => by omega)
            obtain ⟨b', off, A1, L1, C1, hA, k1, k2, k3, _, k5⟩ := (row.bsin HL.out.2.2.2.1).at hD
            subst hA
            have hAp := rAppend_of (i : Int) A1 L1 C1 D hdk (wf_put H.out.2.1 i k HL.out.2.2.1 HL.out.2.2.2.2.1) k2 k3 k5
            have hk' : (k : Int) < nv := by omega
            have hwk : IntKind.i64.wrap ((k : Int) + 1) = (k : Int) + 1 := by rw [IntKind.wrap_i64]; omega
            have HA : Hid (Calls Try.prog 55 #[.pointer (some ⟨p, 0, none⟩), .int .i64 (i : Int), .slice A1 L1 C1] wr fun e w' => (∃ v, e = .returned v) ∧ SvSt 108 (fun x => O x ∧ x < W.heap.size) Z p s (zs.set i (ls.take (k + 1), 0)) w') := by
              refine hAp.mono ?_
              rintro e w' ⟨rfl, st⟩
              rw [app_next HL.out.2.2.2.2.2.2.1 hD (HL.out.2.2.1 D (List.mem_of_getElem? hD)) HL.out.2.2.2.2.1] at st
              exact ⟨⟨_, rfl⟩, SvSt.step hOk hok st⟩
            clear hAp row k2 k3 k5 hD hdk hOk hok
            go_wp2_with (go_at_call 55; refine HA.out.mono ?_; rintro e w9 ⟨⟨v9, rfl⟩, st9⟩)
            have H9 : Hid (SvSt 108 (fun x => O x ∧ x < W.heap.size) Z p s (zs.set i (ls.take (k + 1), 0)) w9) := st9
            clear st9
            go_roundw
            case rel => exact ⟨k + 1, by simp, by omega, H9.out⟩
            case measure => simp [intOf]; omega
          · obtain rfl : k = nv := by omega
            have htk : ls.take k = ls := List.take_of_length_le (by rw [HL.out.2.2.2.2.2.1]; exact Nat.le_refl _)
            rw [htk] at hdk
            have HF : Hid (Calls Try.prog 56 #[.pointer (some ⟨p, 0, none⟩)] wr fun e w' => (∃ v, e = .returned v) ∧ SvSt 108 O W p s (putZ zs i ls) w') := by
              refine (rFlush_of hdk).mono ?_
              rintro e w' ⟨hv, st⟩
              exact ⟨hv, SvSt.of (O1 := fun x => O x ∧ x < W.heap.size) (fun x h => h.1) HL.out.2.2.2.2.2.2.2.2 (SvSt.step hOk hok st)⟩
            clear hdk hOk hok htk
            go_wp2_with (go_at_call 56; refine HF.out.mono ?_; rintro e w9 ⟨⟨v9, rfl⟩, st9⟩)
            go_ret
            refine ⟨by rw [HE.out.2.1]; rfl, ?_⟩
            unfold svZ
            rw [if_pos HE.out.2.1, Int.toNat_natCast, ← HL.out.1]
            exact st9
      · have hEb : (E != 0) = true := by simp [hE0]
        have HN : Hid (SvSt 108 O W p s (svZ s zs i seq ps) Z) := by
          have : svZ s zs i seq ps = zs := by unfold svZ; rw [if_neg (by rw [HE.out.2.1]; exact hE0)]
          rw [this]
          exact (SvSt.start H.out.1).under HZ.out.2
        clear hE0 HZ
        go_wp2
        go_ret
        exact ⟨by rw [HE.out.2.1]; rfl, HN.out⟩)
  · have HN : Hid (∀ X, Below W.heap.size W X → Saved 108 .i64 O W p s zs slot seq ps (.returned (.int .i64 1)) X) := by
      intro X hX
      have h1 : svE s slot ps = 1 := by unfold svE; rw [if_neg hsl]
      refine ⟨by rw [h1], ?_⟩
      have : svZ s zs slot seq ps = zs := by unfold svZ; rw [if_neg (by rw [h1]; decide)]
      rw [this]
      exact (SvSt.start H.out.1).under hX
    have h0 : (slot != 0) = true := by simp; omega
    have h1 : (slot != 1) = true := by simp; omega
    clear hsl
    go_enter Try.func25, Try.ntmps25
    go_wp2
    go_ret
    exact HN.out _ HW.out.2
end Go.Proofs.Yteokhkoaieibmaa

/- What one call of the document's Read does. -/
namespace Go.Proofs.Yteokhkoaieibmaa
open Go.RowKit Go.Shelf
set_option linter.unusedVariables false
set_option maxRecDepth 4000
section
variable {O : Nat → Prop} {W : World} {p : Nat} {s : Sh} {zs : List Zn}
set_option maxHeartbeats 4000000 in
theorem rRead_of (zn bn : Int) (hd : Dv 108 O W p s zs) (hw : Wf s zs) :
    Calls Try.prog 51 #[.pointer (some ⟨p, 0, none⟩), .agg #[.int .i64 zn, .int .i64 bn]] W (ReadE .i64 W zs zn bn) := by
  obtain ⟨q, hq⟩ : ∃ q, q = W.heap.size := ⟨_, rfl⟩
  have ab : Blk (W.alloc (.cells #[.int .i64 zn, .int .i64 bn] 67)) q [.int .i64 zn, .int .i64 bn] 67 := Blk.new' hq.symm rfl
  have abel : Below q W (W.alloc (.cells #[.int .i64 zn, .int .i64 bn] 67)) := (Below.refl _ _).alloc (by omega) _
  have hd1 : Dv 108 O (W.alloc (.cells #[.int .i64 zn, .int .i64 bn] 67)) p s zs := by
    obtain ⟨g, c, vs, hv⟩ := hd; exact ⟨g, c, vs, hv.under (by rw [← hq]; exact abel)⟩
  go_enter Try.func51, Try.ntmps51
  go_upto_region 1 with fail
  rw [← hq]
  generalize hW1 : World.alloc _ _ = W1 at *
  clear hW1
  have e0 : W1.cell? ⟨q, 0, none⟩ = some (.int .i64 zn) := ab.cell 0
  have e1 : W1.cell? ⟨q, 1, none⟩ = some (.int .i64 bn) := ab.cell 1
  have HA : Hid (Below W.heap.size W W1 ∧ Wf s zs) := ⟨by rw [← hq]; exact abel, hw⟩
  clear ab abel hd hw hq
  obtain ⟨g, cz, vs, hv⟩ := hd1
  obtain ⟨p0, p1, p2, p3, c4⟩ := hv.pcell
  rcases zone_cases zs zn with ⟨i, z, rfl, hz, hi, hbb⟩ | ⟨hno, hbb⟩
  · obtain ⟨ua, uc, hu, hr, z0, z1⟩ := hv.at hz
    have hi' : (i : Int) < zs.length := by omega
    have hi0 : decide ((i : Int) < 0) = false := by simp
    have hi1 : decide ((zs.length : Int) ≤ (i : Int)) = false := by simp; omega
    have hi2 : decide (zs.length ≤ i) = false := by simp; omega
    have hzi : zoneIn zs i := ⟨by omega, by omega⟩
    clear hbb
    by_cases hbi : 0 ≤ bn ∧ bn ≤ (z.1.length : Int) - 1
    · obtain ⟨j, rfl⟩ : ∃ j : Nat, bn = j := ⟨bn.toNat, by omega⟩
      have hj : j < z.1.length := by omega
      obtain ⟨D, hD⟩ : ∃ D, z.1[j]? = some D := ⟨z.1[j], by simp⟩
      obtain ⟨b, off, A, L, C, rfl, k1, k2, k3, k4⟩ := hv.block HA.out.2 hz hu hD
      have HI : Hid (∀ V, Below W1.heap.size W1 V → Calls Try.prog 76 #[.slice A L C] V (LentE V D)) := fun V hV => rLent_of A L C D V (k2.below hV) k3 (by omega)
      have HZ : Hid (zs[i]? = some z ∧ z.1[j]? = some D) := ⟨hz, hD⟩
      have hj' : (j : Int) < z.1.length := by omega
      have hj0 : decide ((j : Int) < 0) = false := by simp
      have hj1 : decide ((z.1.length : Int) ≤ (j : Int)) = false := by simp; omega
      have hj2 : decide (z.1.length ≤ j) = false := by simp; omega
      clear k2 k3 k4 hv hr hu hz hD hbi
      go_quiet (fail)
      go_wp2
      go_quiet (fail)
      go_wp2
      go_region_held3 (fun w' => w'.cell? ⟨p, 4, none⟩ = some (.slice (some ⟨g, 0, none⟩) zs.length cz) ∧ w'.cell? ⟨q, 0, none⟩ = some (.int .i64 i) ∧ w'.cell? ⟨q, 1, none⟩ = some (.int .i64 j) ∧ w'.cell? ⟨g, i * 2, none⟩ = some (.slice (some ⟨b, off, none⟩) z.1.length uc) ∧ w'.cell? ⟨b, off + j, none⟩ = some (.slice A L C)) (first | exact ⟨c4, e0, e1, z0, k1⟩ | exact ⟨m4, m0, m1, n0, n1⟩)
        ((go_at_call 76; refine (HI.out _ (by exact ⟨rfl, rfl, rfl, Nat.le_refl _, fun _ _ => rfl⟩)).mono ?_; rintro e w3 ⟨h3, rfl, bk3, bl3⟩; have m4 := (bl3.cell (old_block c4)).trans c4; have m0 := (bl3.cell (old_block e0)).trans e0; have m1 := (bl3.cell (old_block e1)).trans e1; have n0 := (bl3.cell (old_block z0)).trans z0; have n1 := (bl3.cell (old_block k1)).trans k1))
      go_wp2
      go_ret2
      have hsz := HA.out.1.size
      have bl4 : Below W1.heap.size W1 w3 := ⟨bl3.os, bl3.tape, bl3.output, bl3.size, bl3.block⟩
      exact read_ok HZ.out.1 HZ.out.2 (bk3.mono (fun x hx _ => Nat.le_trans hsz hx)) (HA.out.1.trans (bl4.mono hsz))
    · have HN : Hid (zoneIn zs i ∧ ¬ blockIn zs i bn) := ⟨hzi, by unfold blockIn; rw [atZ_in hz]; exact hbi⟩
      by_cases hb0 : bn < 0
      · clear hv hr hu hz hbi hzi
        go_quiet (fail)
        go_wp2
        go_quiet (fail)
        go_wp2
        go_ret2
        exact read_none HN.out.1 HN.out.2 (HA.out.1.trans ⟨rfl, rfl, rfl, Nat.le_refl _, fun _ _ => rfl⟩)
      · have hge : (z.1.length : Int) ≤ bn := by omega
        have b0 : decide (bn < 0) = false := by simp; omega
        have b1 : decide ((z.1.length : Int) ≤ bn) = true := by simp; omega
        clear hv hr hu hz hbi hzi
        go_quiet (fail)
        go_wp2
        go_quiet (fail)
        go_wp2
        go_ret2
        exact read_none HN.out.1 HN.out.2 (HA.out.1.trans ⟨rfl, rfl, rfl, Nat.le_refl _, fun _ _ => rfl⟩)
  · have HN : Hid (¬ zoneIn zs zn) := hno
    rcases out_cases hno with h | ⟨h1, h2⟩
    · have hb : decide (zn < 0) = true := by simp [h]
      clear hbb hno hv
      go_quiet (fail)
      go_wp2
      go_ret2
      exact read_no HN.out (HA.out.1.trans ⟨rfl, rfl, rfl, Nat.le_refl _, fun _ _ => rfl⟩)
    · have hb : decide (zn < 0) = false := by simp; omega
      have hb2 : decide ((zs.length : Int) ≤ zn) = true := by simp [h2]
      clear hbb hno hv
      go_quiet (fail)
      go_wp2
      go_ret2
      exact read_no HN.out (HA.out.1.trans ⟨rfl, rfl, rfl, Nat.le_refl _, fun _ _ => rfl⟩)
end
end Go.Proofs.Yteokhkoaieibmaa

/- What one call of the document's own Load does. -/
namespace Go.Proofs.Yteokhkoaieibmaa
open Go.RowKit Go.Shelf
set_option linter.unusedVariables false
set_option maxRecDepth 4000

/-- What the document's loop has: its 'best' is -1 where the program's has the error. -/
def BOk (s : Sh) (zs : List Zn) (j : Nat) (B S : Int) (xs : List Pl) (Aa Er : Int) : Prop := bestK s zs j = (S, xs, Aa, Er) ∧ ((Er = 0 ∧ B = Aa ∧ 0 ≤ Aa) ∨ (S = 0 ∧ xs = [] ∧ Aa = 0 ∧ Er = 142 ∧ B = -1))
set_option maxHeartbeats 4000000 in
theorem dkLoad_of {O : Nat → Prop} {W : World} {p : Nat} {s : Sh} {zs : List Zn} (hd : Dv 108 O W p s zs) (hw : Wf s zs) :
    Calls Try.prog 23 #[.pointer (some ⟨p, 0, none⟩)] W (LoadGot .i64 W s zs) := by
  obtain ⟨q, hq⟩ : ∃ q, q = W.heap.size := ⟨_, rfl⟩
  have st0 : LdSt q W ((W.alloc (.cells #[.int .u64 0, .slice none 0 0] 27)).alloc (.cells #[.int .u64 0, .slice none 0 0] 27)) 0 none 0 0 [] := ⟨(Blk.new' hq.symm rfl).alloc _, Blk.new' (by simp [hq]) rfl, kin_none _, Nat.le_refl _, ((Below.refl _ _).alloc (Nat.le_refl _) _).alloc (by simp) _, hq⟩
  have H : Hid (Dv 108 O W p s zs ∧ Wf s zs ∧ q = W.heap.size ∧ 6 ≤ zs.length ∧ -9223372036854775808 ≤ s.z) := ⟨hd, hw, hq, by have h1 := hw.len; have h2 := hw.right.1; omega, by have h2 := hw.right.1; omega⟩
  clear hd hw
  go_enter Try.func23, Try.ntmps23
  go_upto_region 3 with fail
  rw [← hq]
  clear hq
  generalize hW0 : World.alloc (World.alloc W _) _ = W0 at st0 ⊢
  have H0 : Hid (LdSt q W W0 0 none 0 0 []) := st0
  clear st0 hW0
  go_wp2
  go_loopw [5, 7] (fun vb x wr => ∃ (j : Nat) (B S Aa Er : Int) (xs : List Pl) (A : Option Addr) (N C : Nat), x = .int .i64 j ∧ vb = .int .i64 B ∧ j ≤ 2 ∧ BOk s zs j B S xs Aa Er ∧ LdSt q W wr S A N C xs) (fun _ x _ => 2 - (intOf x).toNat)
  case atStart => exact ⟨0, -1, 0, 0, 142, [], none, 0, 0, rfl, rfl, by omega, ⟨rfl, .inr ⟨rfl, rfl, rfl, rfl, rfl⟩⟩, H0.out⟩
  case round =>
    obtain ⟨j, B, S, Aa, Er, xs, A, N, C, rfl, rfl, hj, hbest, st⟩ := hrel
    rcases Nat.lt_or_ge j 2 with hlt | hge
    · obtain ⟨z, hz⟩ : ∃ z, zs[j]? = some z := ⟨zs[j]'(by have := H.out.2.2.2.1; omega), by simp⟩
      have hj' : (j : Int) < 2 := by omega
      have hwj : IntKind.i64.wrap ((j : Int) + 1) = (j : Int) + 1 := by rw [IntKind.wrap_i64]; omega
      obtain ⟨V0, hV0⟩ : ∃ V0 : World, V0 = wr := ⟨_, rfl⟩
      subst hV0
      obtain ⟨m, hm⟩ : ∃ m, m = z.1.length := ⟨_, rfl⟩
      have hzl := H.out.2.1.zone z (List.mem_of_getElem? hz)
      have hzr := H.out.2.1.right
      have hm4 : m ≤ 4096 := by have h1 := hzl.1; have h2 := hzr.2.2.2.1; omega
      have hlen : ∀ D ∈ z.1, D.length ≤ 5000 := by
        intro D hD
        have h1 := hzl.2.2.2 D hD
        have h2 := power_bounds hzr.2.2.2.2.1
        omega
      have hAt := rAt_of (j : Int) (kdv_under H.out.1 st.bel)
      rw [atZ_in hz, ← hm] at hAt
      have HA : Hid (Calls Try.prog 50 #[.pointer (some ⟨p, 0, none⟩), .int .i64 (j : Int)] V0 fun e w' => e = .returned (.tuple #[.int .i64 (m : Nat), .int .i64 z.2]) ∧ Below V0.heap.size V0 w') := hAt
      have HST : Hid (LdSt q W V0 S A N C xs ∧ BOk s zs j B S xs Aa Er ∧ zs[j]? = some z ∧ m = z.1.length ∧ ∀ D ∈ z.1, D.length ≤ 5000) := ⟨st, hbest, hz, hm, hlen⟩
      clear st hbest hz hm hlen hAt hzl hzr
      go_wp2_with (go_at_call 50; refine HA.out.mono ?_; rintro e V1 ⟨rfl, b1⟩)
      have H1 : Hid (Below V0.heap.size V0 V1) := b1
      clear b1 HA
      go_loopw [10, 11] (fun v x wr => ∃ (t : Nat) (av : Option Addr) (cv : Nat), t ≤ m ∧ x = .int .i64 t ∧ v = .slice av t cv ∧ RowAt (fun k => V0.heap.size ≤ k) wr (.slice av t cv) (z.1.take t) ∧ Below V0.heap.size V0 wr) (fun _ x _ => m - (intOf x).toNat)
      case atStart => exact ⟨0, none, 0, Nat.zero_le _, rfl, rfl, by simpa using RowAt.nil _ _, H1.out⟩
      case round =>
        obtain ⟨t, av, cv, ht, rfl, rfl, row, bl⟩ := hrel
        rcases Nat.lt_or_ge t m with hlt2 | hge2
        · obtain ⟨D, hD⟩ : ∃ D, z.1[t]? = some D := ⟨z.1[t]'(by have := HST.out.2.2.2.1; omega), by simp⟩
          obtain ⟨hrE, hrB⟩ := rd_at HST.out.2.2.1 hD
          have hR := rRead_of (j : Int) (t : Int) (kdv_under (kdv_under H.out.1 HST.out.1.bel) bl) H.out.2.1
          have ht' : (t : Int) < m := by omega
          have hwt : IntKind.i64.wrap ((t : Int) + 1) = (t : Int) + 1 := by rw [IntKind.wrap_i64]; omega
          have htl : (z.1.take t).length = t := by rw [List.length_take]; have := HST.out.2.2.2.1; omega
          have HR : Hid (Calls Try.prog 51 #[.pointer (some ⟨p, 0, none⟩), .agg #[.int .i64 (j : Int), .int .i64 (t : Int)]] wr fun e X => ∃ ax nx cx, e = .returned (.tuple #[.slice ax nx cx, .int .i64 0]) ∧ ∃ a9 c9 w9, (Builtin.append_ #[28, 28] 28 #[.slice av t cv, .slice (some ⟨X.heap.size, 0, none⟩) 1 1]).run Try.prog (X.alloc (.cells #[.slice ax nx cx] 39)) = .ok (.slice a9 (t + 1) c9) w9 ∧ RowAt (fun k => V0.heap.size ≤ k) w9 (.slice a9 (t + 1) c9) (z.1.take (t + 1)) ∧ Below V0.heap.size V0 w9) := by
            refine hR.mono ?_
            rintro e X ⟨h, rfl, hbk, hb⟩
            rw [hrE]
            rw [hrB] at hbk
            obtain ⟨ax, cx, rfl⟩ := own_slice hbk.1
            have hqw : V0.heap.size ≤ wr.heap.size := bl.size
            have row' := row.out (below_out Non hb) (fun _ _ => id) (fun _ _ _ _ => id)
            obtain ⟨a9, c9, w9, e9, r9, g9, _⟩ := app_row row' (hbk.mono (O' := fun k => V0.heap.size ≤ k) (fun c hc _ => Nat.le_trans hqw hc)) rfl (by rw [htl]; omega) (fun k hk => Nat.le_trans hqw (Nat.le_trans hb.size hk))
            rw [htl] at e9 r9
            have bX : Below V0.heap.size V0 X := bl.trans (hb.mono hqw)
            refine ⟨ax, _, cx, rfl, a9, c9, w9, e9, by rw [take_snoc hD]; exact r9, ?_⟩
            obtain ⟨vs, r1, r2, _⟩ := row'
            exact (bX.alloc (by have := hb.size; omega) _).grown g9 (by simp; have := hb.size; omega) (fun k hk => r2 k hk)
          clear row bl hR hrE hrB hD htl
          go_wp2_with (first
            | (go_at_call 51; refine HR.out.mono ?_; rintro e X ⟨ax, nx, cx, rfl, a9, c9, w9, e9, r9, b9⟩)
            | (at_builtin; refine wpList_append_run rfl (.tmp 39) (.tmp 41) 28 28 rfl _ _ rfl rfl _ _ e9 ?_))
          have H9 : Hid (RowAt (fun k => V0.heap.size ≤ k) w9 (.slice a9 (t + 1) c9) (z.1.take (t + 1)) ∧ Below V0.heap.size V0 w9) := ⟨r9, b9⟩
          clear e9 r9 b9
          go_roundw
          case rel => exact ⟨t + 1, a9, c9, by omega, by simp, by simp, H9.out.1, H9.out.2⟩
          case measure => simp [intOf]; omega
        · obtain rfl : t = m := by omega
          have htk : z.1.take t = z.1 := List.take_of_length_le (by rw [HST.out.2.2.2.1]; exact Nat.le_refl _)
          rw [htk] at row
          have hbs : BsIn wr av t z.1 := row.bsin (H.out.2.1.short z (List.mem_of_getElem? HST.out.2.2.1))
          have HSh : Hid (Calls Try.prog 52 #[.pointer (some ⟨p, 0, none⟩)] wr fun e Y => e = .returned (.agg (shL s).toArray) ∧ Below wr.heap.size wr Y) := rShape_of (kdv_under (kdv_under H.out.1 HST.out.1.bel) bl)
          have HDe : Hid (∀ X, Below wr.heap.size wr X → Calls Try.prog 17 #[.agg (shL s).toArray, .slice av t cv] X fun e Y => ∃ A' n' C', e = .returned (.tuple #[.agg #[.int .u64 (dkS s z.1), .slice A' n' C'], .int .i64 (dkE s z.1)]) ∧ KIn Y A' n' (dkX s z.1) ∧ n' ≤ C' ∧ Below V0.heap.size V0 Y) := by
            intro X hX
            refine (dkDecode_of s av t cv z.1 X H.out.2.2.2.2 (hbs.below hX) (by omega) HST.out.2.2.2.2).mono ?_
            rintro e Y ⟨A', n', C', rfl, h1, h2, h3⟩
            have hb := bl.trans (hX.mono bl.size)
            exact ⟨A', n', C', rfl, h1, h2, hb.trans (h3.mono hb.size)⟩
          obtain ⟨S', hS'⟩ : ∃ S', S' = dkS s z.1 := ⟨_, rfl⟩
          obtain ⟨E', hE'⟩ : ∃ E', E' = dkE s z.1 := ⟨_, rfl⟩
          rw [← hS', ← hE'] at HDe
          have HSE : Hid (S' = dkS s z.1 ∧ E' = dkE s z.1) := ⟨hS', hE'⟩
          clear hS' hE' row bl htk hbs
          go_upto_region 14 with (first
            | (go_at_call 17; refine (HDe.out Y bY).mono ?_; rintro e Y2 ⟨A', n', C', rfl, k2, hn2, b2⟩)
            | (go_at_call 52; refine HSh.out.mono ?_; rintro e Y ⟨rfl, bY⟩))
          obtain ⟨q9, hq9⟩ : ∃ q9, q9 = Y2.heap.size := ⟨_, rfl⟩
          have H9 : Hid (LdSt q W (Y2.alloc (.cells #[.int .u64 S', .slice A' n' C'] 27)) S A N C xs ∧ Blk (Y2.alloc (.cells #[.int .u64 S', .slice A' n' C'] 27)) q9 [.int .u64 S', .slice A' n' C'] 27 ∧ KIn (Y2.alloc (.cells #[.int .u64 S', .slice A' n' C'] 27)) A' n' (dkX s z.1) ∧ n' ≤ C' ∧ q + 2 ≤ q9) := by
            have b3 : Below V0.heap.size V0 (Y2.alloc (.cells #[.int .u64 S', .slice A' n' C'] 27)) := b2.alloc b2.size _
            refine ⟨HST.out.1.below b3, Blk.new' hq9.symm rfl, k2.alloc _, hn2, ?_⟩
            have h1 := HST.out.1.best.lt
            have h2 := b2.size
            omega
          rw [← hq9]
          clear hq9 k2 hn2 b2 bY HSh HDe
          generalize hW9 : World.alloc Y2 _ = W9 at H9 ⊢
          clear hW9
          by_cases hK : IsK s z.1
          · have hE0 : E' = 0 := by rw [HSE.out.2]; unfold dkE; rw [if_pos hK]
            have hSS : S' = allSeq z.1 := by rw [HSE.out.1]; unfold dkS; rw [if_pos hK]
            have hXX : dkX s z.1 = allPs z.1 := by unfold dkX; rw [if_pos hK]
            have HK : Hid (IsK s z.1 ∧ S' = allSeq z.1 ∧ dkX s z.1 = allPs z.1) := ⟨hK, hSS, hXX⟩
            clear hK hSS hXX
            subst hE0
            have c0 : W9.cell? ⟨q9, 0, none⟩ = some (.int .u64 S') := H9.out.2.1.cell 0
            have c1 : W9.cell? ⟨q9, 1, none⟩ = some (.slice A' n' C') := H9.out.2.1.cell 1
            have d0 : W9.cell? ⟨q + 1, 0, none⟩ = some (.int .u64 S) := H9.out.1.best.cell 0
            have d1 : W9.cell? ⟨q + 1, 1, none⟩ = some (.slice A N C) := H9.out.1.best.cell 1
            have z0 := H9.out.1.best.frozen 0
            have z1 := H9.out.1.best.frozen 1
            have hqn : q9 ≠ q + 1 := by have := H9.out.2.2.2.2; omega
            have HT : Hid ((Er ≠ 0 ∨ S < S') → LdSt q W ((W9.setCell ⟨q + 1, 0, none⟩ (.int .u64 S')).setCell ⟨q + 1, 1, none⟩ (.slice A' n' C')) S' A' n' C' (allPs z.1) ∧ BOk s zs (j + 1) (j : Int) S' (allPs z.1) (j : Int) 0) := by
              intro h
              have hqw := H.out.2.2.1
              have e1 : Blk (W9.setCell ⟨q + 1, 0, none⟩ (.int .u64 S')) (q + 1) [.int .u64 S', .slice A N C] 27 := H9.out.1.best.set 0 _
              refine ⟨⟨(H9.out.1.res.set_other (by show q ≠ q + 1; omega) _).set_other (by show q ≠ q + 1; omega) _, e1.set 1 _, ?_, H9.out.2.2.2.1, (H9.out.1.bel.setCell (by show W.heap.size ≤ q + 1; omega) _).setCell (by show W.heap.size ≤ q + 1; omega) _, hqw⟩, ?_, .inl ⟨rfl, rfl, by omega⟩⟩
              · rw [← HK.out.2.2]
                exact (H9.out.2.2.1.set (st_not H9.out.1.best) 0 _).set (st_not e1) 1 _
              · rw [best_yes HST.out.2.2.1 HK.out.1 (by rw [HST.out.2.1.1, ← HK.out.2.1]; exact h), ← HK.out.2.1]
            have HU : Hid (¬ (Er ≠ 0 ∨ S < S') → BOk s zs (j + 1) B S xs Aa Er) := by
              intro h
              refine ⟨?_, HST.out.2.1.2⟩
              rw [best_no HST.out.2.2.1 (by rw [HST.out.2.1.1, ← HK.out.2.1]; exact fun h' => h h'.2), HST.out.2.1.1]
            by_cases hEr : Er = 0
            · have hB0 : decide (B < 0) = false := by
                rcases HST.out.2.1.2 with ⟨_, h1, h2⟩ | ⟨_, _, _, h1, _⟩
                · simp; omega
                · omega
              by_cases hSl : S < S'
              · have hSl' : decide (S < S') = true := by simp [hSl]
                have HR2 : Hid (LdSt q W ((W9.setCell ⟨q + 1, 0, none⟩ (.int .u64 S')).setCell ⟨q + 1, 1, none⟩ (.slice A' n' C')) S' A' n' C' (allPs z.1) ∧ BOk s zs (j + 1) (j : Int) S' (allPs z.1) (j : Int) 0) := HT.out (.inr hSl)
                clear hSl HT HU hEr
                go_wp2
                go_roundw
                case rel => exact ⟨j + 1, j, S', j, 0, allPs z.1, A', n', C', by simp, rfl, by omega, HR2.out.2, HR2.out.1⟩
                case measure => simp [intOf]; omega
              · have hSl' : decide (S < S') = false := by simp; omega
                have HR2 : Hid (LdSt q W W9 S A N C xs ∧ BOk s zs (j + 1) B S xs Aa Er) := ⟨H9.out.1, HU.out (by simp [hEr]; omega)⟩
                clear HT HU hSl hEr
                go_wp2
                go_roundw
                case rel => exact ⟨j + 1, B, S, Aa, Er, xs, A, N, C, by simp, rfl, by omega, HR2.out.2, HR2.out.1⟩
                case measure => simp [intOf]; omega
            · have hB0 : decide (B < 0) = true := by
                rcases HST.out.2.1.2 with ⟨h1, _, _⟩ | ⟨_, _, _, _, h1⟩
                · exact absurd h1 hEr
                · simp; omega
              have HR2 : Hid (LdSt q W ((W9.setCell ⟨q + 1, 0, none⟩ (.int .u64 S')).setCell ⟨q + 1, 1, none⟩ (.slice A' n' C')) S' A' n' C' (allPs z.1) ∧ BOk s zs (j + 1) (j : Int) S' (allPs z.1) (j : Int) 0) := HT.out (.inl hEr)
              clear hEr HT HU
              go_wp2
              go_roundw
              case rel => exact ⟨j + 1, j, S', j, 0, allPs z.1, A', n', C', by simp, rfl, by omega, HR2.out.2, HR2.out.1⟩
              case measure => simp [intOf]; omega
          · have hE1 : E' = 141 := by rw [HSE.out.2]; unfold dkE; rw [if_neg hK]
            have HR2 : Hid (LdSt q W W9 S A N C xs ∧ BOk s zs (j + 1) B S xs Aa Er) := ⟨H9.out.1, by rw [best_no HST.out.2.2.1 (fun h => hK h.1), HST.out.2.1.1], HST.out.2.1.2⟩
            clear hK
            subst hE1
            go_wp2
            go_roundw
            case rel => exact ⟨j + 1, B, S, Aa, Er, xs, A, N, C, by simp, rfl, by omega, HR2.out.2, HR2.out.1⟩
            case measure => simp [intOf]; omega
    · obtain rfl : j = 2 := by omega
      have k0 : wr.cell? ⟨q + 1, 0, none⟩ = some (.int .u64 S) := st.best.cell 0
      have k1 : wr.cell? ⟨q + 1, 1, none⟩ = some (.slice A N C) := st.best.cell 1
      have d0 : wr.cell? ⟨q, 0, none⟩ = some (.int .u64 0) := st.res.cell 0
      have d1 : wr.cell? ⟨q, 1, none⟩ = some (.slice none 0 0) := st.res.cell 1
      have z0 := st.res.frozen 0
      have z1 := st.res.frozen 1
      rcases hbest.2 with ⟨hEr, hB, hA0⟩ | ⟨hS, hxs, hAa, hEr, hB⟩
      · have hB0 : decide (B < 0) = false := by simp; omega
        have HZ : Hid (Blk ((wr.setCell ⟨q, 0, none⟩ (.int .u64 S)).setCell ⟨q, 1, none⟩ (.slice A N C)) q [.int .u64 S, .slice A N C] 27 ∧ LoadGot .i64 W s zs (.returned (.tuple #[.agg #[.int .u64 S, .slice A N C], .int .i64 B, .int .i64 0])) ((wr.setCell ⟨q, 0, none⟩ (.int .u64 S)).setCell ⟨q, 1, none⟩ (.slice A N C))) := by
          have e1 : Blk (wr.setCell ⟨q, 0, none⟩ (.int .u64 S)) q [.int .u64 S, .slice none 0 0] 27 := st.res.set 0 _
          have hqw := H.out.2.2.1
          refine ⟨e1.set 1 _, A, N, C, by rw [hbest.1, hB, hEr], by rw [hbest.1]; exact (st.kin.set (st_not st.res) 0 _).set (st_not e1) 1 _, st.cap, (st.bel.setCell (by show W.heap.size ≤ q; omega) _).setCell (by show W.heap.size ≤ q; omega) _⟩
        clear st hbest hEr hB hA0
        go_wp2
        exact bodyPost_ret (results_cell_3 (p := 2) (u := 3) (v := 4) (ty := 27) rfl _ _ q _ _ _ rfl HZ.out.1 Try.underlying27 rfl Try.info_state _ _ rfl rfl) rfl HZ.out.2
      · have hB0 : decide (B < 0) = true := by simp; omega
        have HZ : Hid (Blk ((wr.setCell ⟨q, 0, none⟩ (.int .u64 0)).setCell ⟨q, 1, none⟩ (.slice none 0 0)) q [.int .u64 0, .slice none 0 0] 27 ∧ LoadGot .i64 W s zs (.returned (.tuple #[.agg #[.int .u64 0, .slice none 0 0], .int .i64 0, .int .i64 142])) ((wr.setCell ⟨q, 0, none⟩ (.int .u64 0)).setCell ⟨q, 1, none⟩ (.slice none 0 0))) := by
          have e1 : Blk (wr.setCell ⟨q, 0, none⟩ (.int .u64 0)) q [.int .u64 0, .slice none 0 0] 27 := st.res.set 0 _
          have hqw := H.out.2.2.1
          refine ⟨e1.set 1 _, none, 0, 0, by rw [hbest.1, hS, hAa, hEr], by rw [hbest.1, hxs]; exact kin_none _, Nat.le_refl _, (st.bel.setCell (by show W.heap.size ≤ q; omega) _).setCell (by show W.heap.size ≤ q; omega) _⟩
        clear st hbest hEr hB hS hxs hAa
        go_wp2
        exact bodyPost_ret (results_cell_3 (p := 2) (u := 3) (v := 4) (ty := 27) rfl _ _ q _ _ _ rfl HZ.out.1 Try.underlying27 rfl Try.info_state _ _ rfl rfl) rfl HZ.out.2
end Go.Proofs.Yteokhkoaieibmaa

/- The program's device and the document's beside each other: both Opens, Loads, Saves. -/
namespace Go.Proofs.Yteokhkoaieibmaa
open Go.RowKit Go.Shelf
set_option linter.unusedVariables false
set_option maxRecDepth 4000

/-- Two devices whose blocks are others, none of them in X. -/
def Tw (V : World) (s : Sh) (p r : Nat) (zs zs' : List Zn) (X : Nat → Prop) (W : World) : Prop :=
  ∃ O1 O2 : Nat → Prop, Dv 104 O1 W p s zs ∧ Dv 108 O2 W r s zs' ∧ (∀ x, O1 x → ¬ O2 x) ∧ (∀ x, O1 x → V.heap.size ≤ x ∧ x < W.heap.size ∧ ¬ X x) ∧ (∀ x, O2 x → V.heap.size ≤ x ∧ x < W.heap.size ∧ ¬ X x) ∧ (∀ x, X x → x < W.heap.size) ∧ Below V.heap.size V W
theorem kdv_out {T : TypeId} {O S : Nat → Prop} {W W' : World} {p : Nat} {s : Sh} {zs : List Zn} (h : Dv T O W p s zs) (ho : Out S W W') (hS : ∀ x, O x → ¬ S x) : Dv T O W' p s zs := by
  obtain ⟨g, c, vs, hv⟩ := h
  exact ⟨g, c, vs, hv.out ho hS⟩
theorem wf_svZ {s : Sh} {zs : List Zn} (h : Wf s zs) (slot seq : Int) (ps : List Pl) : Wf s (svZ s zs slot seq ps) := by
  unfold svZ
  split
  · rename_i he
    unfold svE at he
    split at he
    · exact wf_putZ h _ he
    · cases he
  · exact h
section
variable {V W W' : World} {s : Sh} {p r : Nat} {zs zs' : List Zn} {X X' : Nat → Prop}
theorem Tw.under (h : Tw V s p r zs zs' X W) (hb : Below W.heap.size W W') (hX : ∀ x, X' x → (X x ∨ W.heap.size ≤ x) ∧ x < W'.heap.size) : Tw V s p r zs zs' X' W' := by
  obtain ⟨O1, O2, h1, h2, h3, h4, h5, h6, h7⟩ := h
  have hs := hb.size
  refine ⟨O1, O2, kdv_under h1 hb, kdv_under h2 hb, h3, fun x hx => ⟨(h4 x hx).1, by have := (h4 x hx).2.1; omega, fun hX' => ?_⟩, fun x hx => ⟨(h5 x hx).1, by have := (h5 x hx).2.1; omega, fun hX' => ?_⟩, fun x hx => (hX x hx).2, h7.trans (hb.mono h7.size)⟩
  · rcases (hX x hX').1 with h | h
    · exact (h4 x hx).2.2 h
    · have := (h4 x hx).2.1; omega
  · rcases (hX x hX').1 with h | h
    · exact (h5 x hx).2.2 h
    · have := (h5 x hx).2.1; omega
theorem Tw.same (h : Tw V s p r zs zs' X W) (hb : Below W.heap.size W W') : Tw V s p r zs zs' X W' := by
  have hs := hb.size
  have h6 := h
  obtain ⟨_, _, _, _, _, _, _, h6, _⟩ := h6
  exact h.under hb (fun x hx => ⟨.inl hx, by have := h6 x hx; omega⟩)
theorem Tw.bel (h : Tw V s p r zs zs' X W) : Below V.heap.size V W := by obtain ⟨_, _, _, _, _, _, _, _, h⟩ := h; exact h
theorem Tw.setX (h : Tw V s p r zs zs' X W) {g : Nat} (hg : X g) (hV : V.heap.size ≤ g) (i : Nat) (u : Value) : Tw V s p r zs zs' X (W.setCell ⟨g, i, none⟩ u) := by
  obtain ⟨O1, O2, h1, h2, h3, h4, h5, h6, h7⟩ := h
  have ho := out_cell W g i u
  have hs : (W.setCell ⟨g, i, none⟩ u).heap.size = W.heap.size := by simp [World.setCell]
  refine ⟨O1, O2, kdv_out h1 ho (fun x hx e => (h4 x hx).2.2 (e ▸ hg)), kdv_out h2 ho (fun x hx e => (h5 x hx).2.2 (e ▸ hg)), h3, ?_, ?_, ?_, h7.setCell hV _⟩
  · rw [hs]; exact h4
  · rw [hs]; exact h5
  · rw [hs]; exact h6
theorem Tw.load (h : Tw V s p r zs zs' X W) (hw : Wf s zs) : Calls Try.prog 22 #[.pointer (some ⟨p, 0, none⟩)] W (LoadGot .u16 W s zs) := by
  obtain ⟨O1, O2, h1, _⟩ := h
  exact kload_of h1 hw
theorem Tw.dload (h : Tw V s p r zs zs' X W) (hw : Wf s zs') : Calls Try.prog 23 #[.pointer (some ⟨r, 0, none⟩)] W (LoadGot .i64 W s zs') := by
  obtain ⟨O1, O2, _, h1, _⟩ := h
  exact dkLoad_of h1 hw
theorem Tw.save (slot seq : Int) (A : Option Addr) (n C : Nat) (ps : List Pl) (h : Tw V s p r zs zs' X W) (hw : Wf s zs) (hs : FitsU seq) (hk : KIn W A n ps) (hnC : n ≤ C) :
    Calls Try.prog 24 #[.pointer (some ⟨p, 0, none⟩), .int .i64 slot, .agg #[.int .u64 seq, .slice A n C]] W fun e W' => e = .returned (.int .u16 (svE s slot ps)) ∧ Tw V s p r (svZ s zs slot seq ps) zs' X W' ∧ ∀ g L t, X g → Blk W g L t → Blk W' g L t := by
  obtain ⟨O1, O2, h1, h2, h3, h4, h5, h6, h7⟩ := h
  refine (ksave_of slot seq A n C ps h1 hw hs hk hnC).mono ?_
  rintro e W' ⟨rfl, O', hd', hO', ho⟩
  have hsz := ho.size
  have hb7 : Below V.heap.size V W' := h7.trans (ho.below h7.size (fun x hx => (h4 x hx).1))
  refine ⟨rfl, ⟨_, O2, hd'.there, kdv_out h2 ho (fun x hx h => h3 x h hx), ?_, ?_, ?_, ?_, hb7⟩, fun g L t hg hb => ho.blk hb (fun h => (h4 g h).2.2 hg)⟩
  · rintro x ⟨hx, _⟩ hx2
    rcases hO' x hx with h | h
    · exact h3 x h hx2
    · have := (h5 x hx2).2.1; omega
  · rintro x ⟨hx, hlt⟩
    rcases hO' x hx with h | h
    · exact ⟨(h4 x h).1, hlt, (h4 x h).2.2⟩
    · exact ⟨by have := h7.size; omega, hlt, fun hX => by have := h6 x hX; omega⟩
  · intro x hx
    exact ⟨(h5 x hx).1, by have := (h5 x hx).2.1; omega, (h5 x hx).2.2⟩
  · intro x hx; have := h6 x hx; omega
theorem Tw.dsave (slot seq : Int) (A : Option Addr) (n C : Nat) (ps : List Pl) (h : Tw V s p r zs zs' X W) (hw : Wf s zs') (hs : FitsU seq) (hk : KIn W A n ps) (hn : n ≤ 100000000) :
    Calls Try.prog 25 #[.pointer (some ⟨r, 0, none⟩), .int .i64 slot, .agg #[.int .u64 seq, .slice A n C]] W fun e W' => e = .returned (.int .i64 (svE s slot ps)) ∧ Tw V s p r zs (svZ s zs' slot seq ps) X W' ∧ ∀ g L t, X g → Blk W g L t → Blk W' g L t := by
  obtain ⟨O1, O2, h1, h2, h3, h4, h5, h6, h7⟩ := h
  refine (dkSave_of slot seq A n C ps h2 hw hs hk hn).mono ?_
  rintro e W' ⟨rfl, O', hd', hO', ho⟩
  have hsz := ho.size
  have hb7 : Below V.heap.size V W' := h7.trans (ho.below h7.size (fun x hx => (h5 x hx).1))
  refine ⟨rfl, ⟨O1, _, kdv_out h1 ho (fun x hx h => h3 x hx h), hd'.there, ?_, ?_, ?_, ?_, hb7⟩, fun g L t hg hb => ho.blk hb (fun h => (h5 g h).2.2 hg)⟩
  · rintro x hx2 ⟨hx, _⟩
    rcases hO' x hx with h | h
    · exact h3 x hx2 h
    · have := (h4 x hx2).2.1; omega
  · intro x hx
    exact ⟨(h4 x hx).1, by have := (h4 x hx).2.1; omega, (h4 x hx).2.2⟩
  · rintro x ⟨hx, hlt⟩
    rcases hO' x hx with h | h
    · exact ⟨(h5 x h).1, hlt, (h5 x h).2.2⟩
    · exact ⟨by have := h7.size; omega, hlt, fun hX => by have := h6 x hX; omega⟩
  · intro x hx; have := h6 x hx; omega
end
theorem best_err (s : Sh) (zs : List Zn) : ∀ j, (bestK s zs j).2.2.2 = 0 ∨ (bestK s zs j).2.2.2 = 142
  | 0 => .inr rfl
  | j + 1 => by
    show (bestStep s (bestK s zs j) (zs.getD j ([], 0)).1 (j : Int)).2.2.2 = 0 ∨ (bestStep s (bestK s zs j) (zs.getD j ([], 0)).1 (j : Int)).2.2.2 = 142
    unfold bestStep
    split
    · exact .inl rfl
    · exact best_err s zs j
theorem sv_err (s : Sh) (slot : Int) (ps : List Pl) : svE s slot ps = 0 ∨ svE s slot ps = 1 ∨ svE s slot ps = 140 ∨ svE s slot ps = 141 := by
  unfold svE
  split
  · unfold ckE
    split
    · split <;> simp
    · simp
  · simp
theorem Tw.zones {V W : World} {s : Sh} {p r : Nat} {zs zs' : List Zn} {X : Nat → Prop} (h : Tw V s p r zs zs' X W) (hw : Wf s zs) : Calls Try.prog 27 #[.pointer (some ⟨p, 0, none⟩)] W (ZonesE W zs) := by
  obtain ⟨O1, O2, h1, _⟩ := h
  exact zones_of h1 hw
theorem Tw.dzones {V W : World} {s : Sh} {p r : Nat} {zs zs' : List Zn} {X : Nat → Prop} (h : Tw V s p r zs zs' X W) (hw : Wf s zs') : Calls Try.prog 28 #[.pointer (some ⟨r, 0, none⟩)] W (ZonesE W zs') := by
  obtain ⟨O1, O2, _, h1, _⟩ := h
  exact rZones_of h1 (fun z hz => hw.short z hz)
def DevsGot (W : World) (s : Sh) (zs : List Zn) (e : Ending) (w' : World) : Prop :=
  Below W.heap.size W w' ∧ ((¬ Wf s zs ∧ e = .returned (.tuple #[.pointer none, .pointer none])) ∨ (Wf s zs ∧ ∃ p r, e = .returned (.tuple #[.pointer (some ⟨p, 0, none⟩), .pointer (some ⟨r, 0, none⟩)]) ∧ Tw W s p r zs zs (fun _ => False) w'))
set_option maxHeartbeats 4000000 in
theorem devices_of (s : Sh) (a : Option Addr) (n c : Nat) (zs : List Zn) (W : World) (hz : -9223372036854775808 ≤ s.z) (hl : ZsIn W a n zs) : Calls Try.prog 21 #[.agg (shL s).toArray, .slice a n c] W (DevsGot W s zs) := by
  obtain ⟨q, hq⟩ : ∃ q, q = W.heap.size := ⟨_, rfl⟩
  have HB0 : Hid (Blk (W.alloc (.cells #[.int .i64 s.z, .int .i64 s.zb, .int .i64 s.b, .int .i64 s.r] 23)) q (shL s) 23 ∧ Below W.heap.size W (W.alloc (.cells #[.int .i64 s.z, .int .i64 s.zb, .int .i64 s.b, .int .i64 s.r] 23)) ∧ ZsIn W a n zs ∧ -9223372036854775808 ≤ s.z) := ⟨Blk.new' hq.symm rfl, (Below.refl _ _).alloc (Nat.le_refl _) _, hl, hz⟩
  clear hl hz
  simp only [shL]
  go_enter Try.func21, Try.ntmps21
  go_upto_region 1 with fail
  rw [← hq]
  generalize hW1 : World.alloc _ _ = W1 at HB0 ⊢
  clear hW1 hq
  have HC : Hid (∀ V : World, Below W1.heap.size W1 V → V.cell? ⟨q, 0, none⟩ = some (.int .i64 s.z) ∧ V.cell? ⟨q, 1, none⟩ = some (.int .i64 s.zb) ∧ V.cell? ⟨q, 2, none⟩ = some (.int .i64 s.b) ∧ V.cell? ⟨q, 3, none⟩ = some (.int .i64 s.r)) := by
    intro V hV
    have h := HB0.out.1.below hV HB0.out.1.lt
    exact ⟨h.cell 0, h.cell 1, h.cell 2, h.cell 3⟩
  have HZ : Hid (∀ V : World, Below W1.heap.size W1 V → ZsIn V a n zs) := fun V hV => HB0.out.2.2.1.below (HB0.out.2.1.trans (hV.mono HB0.out.2.1.size))
  obtain ⟨e0, e1, e2, e3⟩ := HC.out W1 (Below.refl _ _)
  by_cases hwf : Wf s zs
  · have HO : Hid (∀ X, Below W1.heap.size W1 X → Calls Try.prog 33 #[.agg #[.int .i64 s.z, .int .i64 s.zb, .int .i64 s.b, .int .i64 s.r], .slice a n c] X fun e Y => ∃ p, e = .returned (.pointer (some ⟨p, 0, none⟩)) ∧ Dv 104 (fun x => W1.heap.size ≤ x ∧ x < Y.heap.size) Y p s zs ∧ Below W1.heap.size W1 Y) := by
      intro X hX
      refine (open_of s a n c zs X HB0.out.2.2.2 (HZ.out X hX)).mono ?_
      rintro e Y ⟨bY, (⟨h, _⟩ | ⟨_, p, rfl, hd⟩)⟩
      · exact absurd hwf h
      · refine ⟨p, rfl, ?_, hX.trans (bY.mono hX.size)⟩
        obtain ⟨g, cc, vs, hv⟩ := hd
        exact ⟨g, cc, vs, hv.mono (fun x hx hlt => ⟨Nat.le_trans hX.size hx, hlt⟩)⟩
    have HR : Hid (∀ Y p, Dv 104 (fun x => W1.heap.size ≤ x ∧ x < Y.heap.size) Y p s zs → Below W1.heap.size W1 Y → Calls Try.prog 47 #[.agg #[.int .i64 s.z, .int .i64 s.zb, .int .i64 s.b, .int .i64 s.r], .slice a n c] Y fun e Z => ∃ r, e = .returned (.pointer (some ⟨r, 0, none⟩)) ∧ Tw W s p r zs zs (fun _ => False) Z ∧ Below W1.heap.size W1 Z) := by
      intro Y p hp hY
      refine (rOpen_of s a n c zs Y HB0.out.2.2.2 (HZ.out Y hY)).mono ?_
      rintro e Z ⟨bZ, (⟨h, _⟩ | ⟨_, r, rfl, hd⟩)⟩
      · exact absurd hwf h
      · have h1 := HB0.out.2.1.size
        have h2 := hY.size
        have h3 := bZ.size
        have hb := hY.trans (bZ.mono hY.size)
        refine ⟨r, rfl, ⟨_, _, kdv_under hp bZ, hd.there, ?_, ?_, ?_, ?_, HB0.out.2.1.trans (hb.mono HB0.out.2.1.size)⟩, hb⟩
        · intro x hx hx2; omega
        · intro x hx; exact ⟨by omega, by omega, id⟩
        · intro x hx; exact ⟨by omega, hx.2, id⟩
        · intro x hx; exact hx.elim
    have HW : Hid (Wf s zs) := hwf
    clear hwf
    go_region_held3 (fun X => X.cell? ⟨q, 0, none⟩ = some (.int .i64 s.z) ∧ X.cell? ⟨q, 1, none⟩ = some (.int .i64 s.zb) ∧ X.cell? ⟨q, 2, none⟩ = some (.int .i64 s.b) ∧ X.cell? ⟨q, 3, none⟩ = some (.int .i64 s.r)) (first | exact ⟨e0, e1, e2, e3⟩ | exact HC.out _ bZ | exact HC.out _ bY)
      (first
      | (go_simp; go_at_call 47; refine (HR.out _ p (by exact dY) (by exact bY)).mono ?_; rintro e Z ⟨r, rfl, tw, bZ⟩)
      | (go_simp; go_at_call 33; refine (HO.out _ (by exact (Below.refl _ _).drew)).mono ?_; rintro e Y ⟨p, rfl, dY, bY⟩))
    all_goals (
      have HT : Hid (Tw W s p r zs zs (fun _ => False) Z) := tw
      clear tw dY bY bZ
      go_wp2
      go_ret2
      exact ⟨HT.out.bel, .inr ⟨HW.out, p, r, rfl, HT.out⟩⟩)
  · have HO : Hid (∀ X, Below W1.heap.size W1 X → Calls Try.prog 33 #[.agg #[.int .i64 s.z, .int .i64 s.zb, .int .i64 s.b, .int .i64 s.r], .slice a n c] X fun e Y => e = .returned (.pointer none) ∧ Below W1.heap.size W1 Y) := by
      intro X hX
      refine (open_of s a n c zs X HB0.out.2.2.2 (HZ.out X hX)).mono ?_
      rintro e Y ⟨bY, (⟨_, rfl⟩ | ⟨h, _⟩)⟩
      · exact ⟨rfl, hX.trans (bY.mono hX.size)⟩
      · exact absurd h hwf
    have HR : Hid (∀ Y, Below W1.heap.size W1 Y → Calls Try.prog 47 #[.agg #[.int .i64 s.z, .int .i64 s.zb, .int .i64 s.b, .int .i64 s.r], .slice a n c] Y fun e Z => e = .returned (.pointer none) ∧ Below W1.heap.size W1 Z) := by
      intro Y hY
      refine (rOpen_of s a n c zs Y HB0.out.2.2.2 (HZ.out Y hY)).mono ?_
      rintro e Z ⟨bZ, (⟨_, rfl⟩ | ⟨h, _⟩)⟩
      · exact ⟨rfl, hY.trans (bZ.mono hY.size)⟩
      · exact absurd h hwf
    have HW : Hid (¬ Wf s zs) := hwf
    clear hwf
    go_region_held3 (fun X => X.cell? ⟨q, 0, none⟩ = some (.int .i64 s.z) ∧ X.cell? ⟨q, 1, none⟩ = some (.int .i64 s.zb) ∧ X.cell? ⟨q, 2, none⟩ = some (.int .i64 s.b) ∧ X.cell? ⟨q, 3, none⟩ = some (.int .i64 s.r)) (first | exact ⟨e0, e1, e2, e3⟩ | exact HC.out _ bZ | exact HC.out _ bY)
      (first
      | (go_simp; go_at_call 47; refine (HR.out _ (by exact bY)).mono ?_; rintro e Z ⟨rfl, bZ⟩)
      | (go_simp; go_at_call 33; refine (HO.out _ (by exact (Below.refl _ _).drew)).mono ?_; rintro e Y ⟨rfl, bY⟩))
    all_goals (
      have HT : Hid (Below W.heap.size W Z) := HB0.out.2.1.trans (bZ.mono HB0.out.2.1.size)
      clear bY bZ
      go_wp2
      go_ret2
      exact ⟨HT.out, .inl ⟨HW.out, rfl⟩⟩)
end Go.Proofs.Yteokhkoaieibmaa
