/- Texts of this seat, one behind the other: DkSave. -/
import Derived.Test.YtfcbcpjcmihooaaGreatP14
import Derived.Test.YtfcbcpjcmihooaaGreatQ1
import Derived.Test.YtfcbcpjcmihooaaGreatQ3
import Derived.Deep.DeepCutAuto
/- What one call of the document's own Save does. -/
namespace Go.Proofs.YtfcbcpjcmihooaaGreat
open Go.RowKit Go.Shelf
set_option linter.unusedVariables false
set_option maxRecDepth 4000

theorem rShape_of {O : Nat → Prop} {W : World} {p : Nat} {s : Sh} {zs : List Zn} (hd : Dv 142 O W p s zs) :
    Calls Tryz.prog 99 #[.pointer (some ⟨p, 0, none⟩)] W fun e w' => e = .returned (.agg (shL s).toArray) ∧ Below W.heap.size W w' := by
  obtain ⟨g, c, vs, hv⟩ := hd
  obtain ⟨q, hq⟩ : ∃ q, q = W.heap.size := ⟨_, rfl⟩
  have hb : Blk (W.alloc (.cells #[.int .i64 0, .int .i64 0, .int .i64 0, .int .i64 0] 23)) q [.int .i64 0, .int .i64 0, .int .i64 0, .int .i64 0] 23 := Blk.new' hq.symm rfl
  have hbel : Below q W (W.alloc (.cells #[.int .i64 0, .int .i64 0, .int .i64 0, .int .i64 0] 23)) := (Below.refl _ _).alloc (by omega) _
  have hv' := hv.under (by rw [← hq]; exact hbel)
  rw [← hq]
  go_enter Tryz.func99, Tryz.ntmps99
  go_upto_region 1 with fail
  rw [← hq]
  generalize hW1 : World.alloc _ _ = W1 at *
  obtain ⟨c0, c1, c2, c3, c4⟩ := hv'.pcell
  have e0 : W1.cell? ⟨q, 0, none⟩ = some (.int .i64 0) := hb.cell 0
  have e1 : W1.cell? ⟨q, 1, none⟩ = some (.int .i64 0) := hb.cell 1
  have e2 : W1.cell? ⟨q, 2, none⟩ = some (.int .i64 0) := hb.cell 2
  have e3 : W1.cell? ⟨q, 3, none⟩ = some (.int .i64 0) := hb.cell 3
  have f0 := hb.frozen 0
  have f1 := hb.frozen 1
  have f2 := hb.frozen 2
  have f3 := hb.frozen 3
  have HB : Hid (Blk W1 q [.int .i64 0, .int .i64 0, .int .i64 0, .int .i64 0] 23 ∧ Below q W W1) := ⟨hb, hbel⟩
  clear hb hbel hv hv' hW1 hq
  go_wp2
  refine bodyPost_ret (results_cell_one (p := 2) (ty := 23) rfl _ _ q [.int .i64 s.z, .int .i64 s.zb, .int .i64 s.b, .int .i64 s.r] _ _ rfl ((((HB.out.1.set 0 _).set 1 _).set 2 _).set 3 _) Tryz.underlying23 rfl Tryz.info_shape) rfl ⟨rfl, ?_⟩
  exact (((HB.out.2.setCell (p := ⟨q, 0, none⟩) (Nat.le_refl _) _).setCell (p := ⟨q, 1, none⟩) (Nat.le_refl _) _).setCell (p := ⟨q, 2, none⟩) (Nat.le_refl _) _).setCell (p := ⟨q, 3, none⟩) (Nat.le_refl _) _
set_option maxHeartbeats 4000000 in
theorem dkSave_of (slot seq : Int) (A : Option Addr) (n C : Nat) (ps : List Pl) {O : Nat → Prop} {W : World} {p : Nat} {s : Sh} {zs : List Zn} (hd : Dv 142 O W p s zs) (hw : Wf s zs) (hs : FitsU seq) (hk : KIn W A n ps) (hn : n ≤ 100000000) :
    Calls Tryz.prog 46 #[.pointer (some ⟨p, 0, none⟩), .int .i64 slot, .agg #[.int .u64 seq, .slice A n C]] W (Saved 142 .i64 O W p s zs slot seq ps) := by
  obtain ⟨q, hq⟩ : ∃ q, q = W.heap.size := ⟨_, rfl⟩
  have H : Hid (Dv 142 O W p s zs ∧ Wf s zs ∧ FitsU seq ∧ KIn W A n ps ∧ n ≤ 100000000 ∧ q = W.heap.size) := ⟨hd, hw, hs, hk, hn, hq⟩
  have HW : Hid (Blk (W.alloc (.cells #[.int .u64 seq, .slice A n C] 86)) q [.int .u64 seq, .slice A n C] 86 ∧ Below W.heap.size W (W.alloc (.cells #[.int .u64 seq, .slice A n C] 86))) := ⟨Blk.new' hq.symm rfl, (Below.refl _ _).alloc (Nat.le_refl _) _⟩
  clear hd hw hs hk hn
  by_cases hsl : 0 ≤ slot ∧ slot < 2
  · obtain ⟨i, rfl⟩ : ∃ i : Nat, slot = i := ⟨slot.toNat, by omega⟩
    have hi2 : (i : Int) < 2 := hsl.2
    obtain ⟨E, hE⟩ : ∃ E, E = ckE s ps := ⟨_, rfl⟩
    have HE : Hid (E = ckE s ps ∧ svE s i ps = E ∧ i < 2) := ⟨hE, by unfold svE; rw [if_pos hsl, hE], by omega⟩
    clear hE hsl
    go_enter Tryz.func46, Tryz.ntmps46
    go_upto_region 1 with fail
    rw [← hq]
    clear hq
    generalize hW1 : World.alloc W _ = W1 at HW ⊢
    clear hW1
    go_cut [15] (fun v X => v = .bool false ∧ X = W1)
    case first =>
      have h01 : i = 0 ∨ i = 1 := by have := HE.out.2.2; omega
      rcases h01 with rfl | rfl
      · go_wp2_with fail
        go_meet
        exact ⟨rfl, rfl⟩
      · go_wp2_with fail
        go_meet
        exact ⟨rfl, rfl⟩
    case rest =>
    obtain ⟨rfl, hX⟩ := hcut
    replace hX := hX.symm
    subst hX
    go_upto_region 3 with fail
    have c0 : W1.cell? ⟨q, 0, none⟩ = some (.int .u64 seq) := HW.out.1.cell 0
    have c1 : W1.cell? ⟨q, 1, none⟩ = some (.slice A n C) := HW.out.1.cell 1
    have HSh : Hid (∀ X, Below W1.heap.size W1 X → Calls Tryz.prog 99 #[.pointer (some ⟨p, 0, none⟩)] X fun e Y => e = .returned (.agg (shL s).toArray) ∧ Below W1.heap.size W1 Y ∧ Y.cell? ⟨q, 0, none⟩ = some (.int .u64 seq) ∧ Y.cell? ⟨q, 1, none⟩ = some (.slice A n C)) := by
      intro X hX
      refine (rShape_of (kdv_under (kdv_under H.out.1 HW.out.2) hX)).mono ?_
      rintro e Y ⟨rfl, hY⟩
      have hb := hX.trans (hY.mono hX.size)
      have kb := HW.out.1.below hb HW.out.1.lt
      exact ⟨rfl, hb, kb.cell 0, kb.cell 1⟩
    have HEn : Hid (∀ X, Below W1.heap.size W1 X → Calls Tryz.prog 98 #[.agg (shL s).toArray, .agg #[.int .u64 seq, .slice A n C]] X fun e Z => ∃ av nv cv, e = .returned (.tuple #[.slice av nv cv, .int .i64 E]) ∧ RowAt (fun j => W.heap.size ≤ j ∧ j < Z.heap.size) Z (.slice av nv cv) (ckO s seq ps) ∧ Below W.heap.size W Z ∧ Z.cell? ⟨q, 0, none⟩ = some (.int .u64 seq) ∧ Z.cell? ⟨q, 1, none⟩ = some (.slice A n C)) := by
      intro X hX
      have hbX := HW.out.2.trans (hX.mono HW.out.2.size)
      refine (dkEncode_of s seq A n C ps X (by have := H.out.2.1.right.1; omega) H.out.2.2.1 (H.out.2.2.2.1.below hbX) H.out.2.2.2.2.1).mono ?_
      rintro e Z ⟨v, rfl, rZ, bZ⟩
      obtain ⟨av, cv, rfl⟩ := rZ.slice
      have hb := hX.trans (bZ.mono hX.size)
      have kb := HW.out.1.below hb HW.out.1.lt
      exact ⟨av, _, cv, by rw [HE.out.1], rZ.mono (fun c hc hlt => ⟨Nat.le_trans hbX.size hc, hlt⟩), hbX.trans (bZ.mono hbX.size), kb.cell 0, kb.cell 1⟩
    go_region_held3 (fun X => X.cell? ⟨q, 0, none⟩ = some (.int .u64 seq) ∧ X.cell? ⟨q, 1, none⟩ = some (.slice A n C)) (first | exact ⟨c0, c1⟩ | exact ⟨d0, d1⟩ | exact ⟨e0, e1⟩)
      (first
      | (go_simp; go_at_call 98; refine (HEn.out _ (by exact bY)).mono ?_; rintro e Z ⟨av, nv, cv, rfl, rZ, bZ, e0, e1⟩)
      | (go_simp; go_at_call 99; refine (HSh.out _ (by exact (Below.refl _ _).drew)).mono ?_; rintro e Y ⟨rfl, bY, d0, d1⟩))
    all_goals (
      have HZ : Hid (RowAt (fun j => W.heap.size ≤ j ∧ j < Z.heap.size) Z (.slice av nv cv) (ckO s seq ps) ∧ Below W.heap.size W Z) := ⟨rZ, bZ⟩
      clear rZ bZ e0 e1 d0 d1 bY HEn HSh c0 c1
      by_cases hE0 : E = 0
      · subst hE0
        have hck : ckE s ps = 0 := HE.out.1.symm
        obtain ⟨ls, hls⟩ : ∃ ls, ls = ckL s seq ps := ⟨_, rfl⟩
        have hO : ckO s seq ps = ls := by unfold ckO; rw [if_pos hck, hls]
        have hsz := ckL_size (seq := seq) hck
        have hsh := ckL_short (seq := seq) hck
        rw [← hls] at hsz hsh
        have hlz : (ls.length : Int) ≤ s.zb := by rw [hls, ckL_length]; exact (ckE_zero.1 hck).2
        have hnv : nv = ls.length := by obtain ⟨_, _, e⟩ := HZ.out.1.slice; cases e; rw [hO]
        have hiz : i < zs.length := by have h1 := H.out.2.1.len; have h2 := H.out.2.1.right.1; have := HE.out.2.2; omega
        have hd1 : Dv 142 (fun x => O x ∧ x < W.heap.size) Z p s zs := kdv_under H.out.1.there HZ.out.2
        have HL : Hid (ls = ckL s seq ps ∧ ckO s seq ps = ls ∧ (∀ D ∈ ls, (D.length : Int) = s.b) ∧ Short ls ∧ (ls.length : Int) ≤ s.zb ∧ nv = ls.length ∧ i < zs.length ∧ RowAt (fun j => W.heap.size ≤ j ∧ j < Z.heap.size) Z (.slice av nv cv) ls ∧ Below W.heap.size W Z) := ⟨hls, hO, hsz, hsh, hlz, hnv, hiz, by rw [← hO]; exact HZ.out.1, HZ.out.2⟩
        have HD : Hid (Dv 142 (fun x => O x ∧ x < W.heap.size) Z p s zs) := hd1
        have hnv4 : nv ≤ 4096 := by have h1 := H.out.2.1.right.2.2.2.1; omega
        clear hls hO hsz hsh hlz hnv hiz hd1 hck HZ
        go_upto_region 7 with (go_at_call 100; refine (rReset_of (i : Int) HD.out).mono ?_; rintro e V ⟨rfl, sV⟩)
        rw [resetZ_in] at sV
        have HV : Hid (SvSt 142 (fun x => O x ∧ x < W.heap.size) Z p s (zs.set i (ls.take 0, 0)) V) := by
          have := SvSt.step (O := fun x => O x ∧ x < W.heap.size) (W := Z) (fun x h => .inl h) (Out.refl _ _) sV
          show SvSt 142 (fun x => O x ∧ x < W.heap.size) Z p s (zs.set i (ls.take 0, 0)) V
          simpa using this
        clear sV
        go_wp2
        go_loopw [9] (fun x wr => ∃ k : Nat, x = .int .i64 k ∧ k ≤ nv ∧ SvSt 142 (fun x => O x ∧ x < W.heap.size) Z p s (zs.set i (ls.take k, 0)) wr) (fun x _ => nv - (intOf x).toNat)
        case atStart => exact ⟨0, rfl, Nat.zero_le _, HV.out⟩
        case round =>
          obtain ⟨k, rfl, hk, O', hdk, hOk, hok⟩ := hrel
          rcases Nat.lt_or_ge k nv with hlt | hge
          · obtain ⟨D, hD⟩ : ∃ D, ls[k]? = some D := ⟨ls[k]'(by have := HL.out.2.2.2.2.2.1; omega), by simp⟩
            have row := HL.out.2.2.2.2.2.2.2.1.out hok (fun r e h => by obtain ⟨_, _, r2, _⟩ := HL.out.2.2.2.2.2.2.2.1; have := r2 r e; omega) (fun c _ hc _ h => by omega)
            obtain ⟨b', off, A1, L1, C1, hA, k1, k2, k3, _, k5⟩ := (row.bsin HL.out.2.2.2.1).at hD
            subst hA
            have hAp := rAppend_of (i : Int) A1 L1 C1 D hdk (wf_put H.out.2.1 i k HL.out.2.2.1 HL.out.2.2.2.2.1) k2 k3 k5
            have hk' : (k : Int) < nv := by omega
            have hwk : IntKind.i64.wrap ((k : Int) + 1) = (k : Int) + 1 := by rw [IntKind.wrap_i64]; omega
            have HA : Hid (Calls Tryz.prog 101 #[.pointer (some ⟨p, 0, none⟩), .int .i64 (i : Int), .slice A1 L1 C1] wr fun e w' => (∃ v, e = .returned v) ∧ SvSt 142 (fun x => O x ∧ x < W.heap.size) Z p s (zs.set i (ls.take (k + 1), 0)) w') := by
              refine hAp.mono ?_
              rintro e w' ⟨rfl, st⟩
              rw [app_next HL.out.2.2.2.2.2.2.1 hD (HL.out.2.2.1 D (List.mem_of_getElem? hD)) HL.out.2.2.2.2.1] at st
              exact ⟨⟨_, rfl⟩, SvSt.step hOk hok st⟩
            clear hAp row k2 k3 k5 hD hdk hOk hok
            go_wp2_with (go_at_call 101; refine HA.out.mono ?_; rintro e w9 ⟨⟨v9, rfl⟩, st9⟩)
            have H9 : Hid (SvSt 142 (fun x => O x ∧ x < W.heap.size) Z p s (zs.set i (ls.take (k + 1), 0)) w9) := st9
            clear st9
            go_roundw
            case rel => exact ⟨k + 1, by simp, by omega, H9.out⟩
            case measure => simp [intOf]; omega
          · obtain rfl : k = nv := by omega
            have htk : ls.take k = ls := List.take_of_length_le (by rw [HL.out.2.2.2.2.2.1]; exact Nat.le_refl _)
            rw [htk] at hdk
            have HF : Hid (Calls Tryz.prog 102 #[.pointer (some ⟨p, 0, none⟩)] wr fun e w' => (∃ v, e = .returned v) ∧ SvSt 142 O W p s (putZ zs i ls) w') := by
              refine (rFlush_of hdk).mono ?_
              rintro e w' ⟨hv, st⟩
              exact ⟨hv, SvSt.of (O1 := fun x => O x ∧ x < W.heap.size) (fun x h => h.1) HL.out.2.2.2.2.2.2.2.2 (SvSt.step hOk hok st)⟩
            clear hdk hOk hok htk
            go_wp2_with (go_at_call 102; refine HF.out.mono ?_; rintro e w9 ⟨⟨v9, rfl⟩, st9⟩)
            go_ret
            refine ⟨by rw [HE.out.2.1]; rfl, ?_⟩
            unfold svZ
            rw [if_pos HE.out.2.1, Int.toNat_natCast, ← HL.out.1]
            exact st9
      · have hEb : (E != 0) = true := by simp [hE0]
        have HN : Hid (SvSt 142 O W p s (svZ s zs i seq ps) Z) := by
          have : svZ s zs i seq ps = zs := by unfold svZ; rw [if_neg (by rw [HE.out.2.1]; exact hE0)]
          rw [this]
          exact (SvSt.start H.out.1).under HZ.out.2
        clear hE0 HZ
        go_wp2
        go_ret
        exact ⟨by rw [HE.out.2.1]; rfl, HN.out⟩)
  · have HN : Hid (∀ X, Below W.heap.size W X → Saved 142 .i64 O W p s zs slot seq ps (.returned (.int .i64 1)) X) := by
      intro X hX
      have h1 : svE s slot ps = 1 := by unfold svE; rw [if_neg hsl]
      refine ⟨by rw [h1], ?_⟩
      have : svZ s zs slot seq ps = zs := by unfold svZ; rw [if_neg (by rw [h1]; decide)]
      rw [this]
      exact (SvSt.start H.out.1).under hX
    have h0 : (slot != 0) = true := by simp; omega
    have h1 : (slot != 1) = true := by simp; omega
    clear hsl
    go_enter Tryz.func46, Tryz.ntmps46
    go_wp2
    go_ret
    exact HN.out _ HW.out.2
end Go.Proofs.YtfcbcpjcmihooaaGreat
