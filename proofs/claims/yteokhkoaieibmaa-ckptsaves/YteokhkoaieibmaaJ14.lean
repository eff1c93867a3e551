/- Texts of this seat, one behind the other: CkSave, CkLoad, CkKnown, CkSame. -/
import Derived.Test.YteokhkoaieibmaaJ13
import Derived.BigQuiet
/- What one call of ckpt's Save does. -/
namespace Go.Proofs.Yteokhkoaieibmaa
open Go.RowKit Go.Shelf
set_option linter.unusedVariables false
set_option maxRecDepth 4000

/-- A device, somewhere in what it had and in new memory. -/
def SvSt (T : TypeId) (O : Nat → Prop) (W : World) (p : Nat) (s : Sh) (zs : List Zn) (wr : World) : Prop := ∃ O', Dv T O' wr p s zs ∧ (∀ x, O' x → O x ∨ W.heap.size ≤ x) ∧ Out O W wr
section
variable {T : TypeId} {O : Nat → Prop} {W wr w' : World} {p : Nat} {s : Sh} {zs zs' : List Zn}
theorem SvSt.start (h : Dv T O W p s zs) : SvSt T O W p s zs W := ⟨O, h, fun _ h => .inl h, Out.refl _ _⟩
theorem SvSt.under (h : SvSt T O W p s zs wr) (hb : Below wr.heap.size wr w') : SvSt T O W p s zs w' := by
  obtain ⟨O', hd, hO, ho⟩ := h
  exact ⟨O', kdv_under hd hb, hO, ho.under hb⟩
theorem SvSt.step {O' : Nat → Prop} (hO : ∀ x, O' x → O x ∨ W.heap.size ≤ x) (ho : Out O W wr) (hs : Step T O' wr p s zs' w') : SvSt T O W p s zs' w' := by
  obtain ⟨hd, h2⟩ := hs
  refine ⟨_, hd, fun x hx => ?_, ho.trans h2 hO⟩
  rcases hx with hx | hx
  · exact hO x hx
  · have := ho.size; exact .inr (by omega)
theorem SvSt.of {O1 : Nat → Prop} {W1 : World} (hO : ∀ x, O1 x → O x) (hb : Below W.heap.size W W1) (h : SvSt T O1 W1 p s zs wr) : SvSt T O W p s zs wr := by
  obtain ⟨O', hd, h1, h2⟩ := h
  refine ⟨O', hd, fun x hx => ?_, (below_out O hb).trans h2 (fun j e => .inl (hO j e))⟩
  rcases h1 x hx with h | h
  · exact .inl (hO x h)
  · have := hb.size; exact .inr (by omega)
end
/-- A device lies in blocks that are there. -/
theorem Dv.there {T : TypeId} {O : Nat → Prop} {W : World} {p : Nat} {s : Sh} {zs : List Zn} (h : Dv T O W p s zs) : Dv T (fun x => O x ∧ x < W.heap.size) W p s zs := by
  obtain ⟨g, c, vs, hv⟩ := h
  exact ⟨g, c, vs, hv.mono (fun x h1 h2 => ⟨h1, h2⟩)⟩
def putZ (zs : List Zn) (i : Nat) (ls : List (List Int)) : List Zn := flushZ (zs.set i (ls, 0))
open Classical in
/-- What Save answers, and what the device holds then. -/
noncomputable def svE (s : Sh) (slot : Int) (ps : List Pl) : Int := if 0 ≤ slot ∧ slot < 2 then ckE s ps else 1
open Classical in
noncomputable def svZ (s : Sh) (zs : List Zn) (slot : Int) (seq : Int) (ps : List Pl) : List Zn := if svE s slot ps = 0 then putZ zs slot.toNat (ckL s seq ps) else zs
def Saved (T : TypeId) (k : IntKind) (O : Nat → Prop) (W : World) (p : Nat) (s : Sh) (zs : List Zn) (slot seq : Int) (ps : List Pl) (e : Ending) (w' : World) : Prop :=
  e = .returned (.int k (svE s slot ps)) ∧ SvSt T O W p s (svZ s zs slot seq ps) w'
theorem app_next {s : Sh} {zs : List Zn} {i k : Nat} {ls : List (List Int)} {D : List Int} (hi : i < zs.length) (hD : ls[k]? = some D) (hl : (D.length : Int) = s.b) (hz : (ls.length : Int) ≤ s.zb) :
    appZ s (zs.set i (ls.take k, 0)) i D = zs.set i (ls.take (k + 1), 0) := by
  have hk := (List.getElem?_eq_some_iff.1 hD).1
  have hat : atZ (zs.set i (ls.take k, 0)) i = (ls.take k, 0) := atZ_in (by simp [hi])
  have hok : appOk s (zs.set i (ls.take k, 0)) i D := ⟨by omega, by simp; omega, hl⟩
  have hfull : ¬ appFull s (zs.set i (ls.take k, 0)) i := by
    unfold appFull
    rw [hat]
    simp only [List.length_take]
    omega
  unfold appZ
  rw [if_pos hok, if_neg hfull, hat, Int.toNat_natCast, List.set_set, take_snoc hD]
theorem ckL_size {s : Sh} {seq : Int} {ps : List Pl} (h : ckE s ps = 0) : ∀ D ∈ ckL s seq ps, (D.length : Int) = s.b := by
  obtain ⟨hg, hm⟩ := ckE_zero.1 h
  have hr := roomN_pos hg.1
  have hp := pow_bounds (show s.b ∈ PowR from hg.1.2.2.2.2.1)
  intro D hD
  obtain ⟨i, hi, rfl⟩ := ckL_mem hD
  have := partK_length_le (roomN s) i ps
  rw [ckB_length (by omega)]
  omega
theorem wf_put {s : Sh} {zs : List Zn} (h : Wf s zs) (i k : Nat) {ls : List (List Int)} (hl : ∀ D ∈ ls, (D.length : Int) = s.b) (hz : (ls.length : Int) ≤ s.zb) : Wf s (zs.set i (ls.take k, 0)) :=
  h.set i _ ⟨by simp only [List.length_take]; omega, by omega, by omega, fun D hD => hl D (List.mem_of_mem_take hD)⟩
set_option maxHeartbeats 4000000 in
theorem ksave_of (slot seq : Int) (A : Option Addr) (n C : Nat) (ps : List Pl) {O : Nat → Prop} {W : World} {p : Nat} {s : Sh} {zs : List Zn} (hd : Dv 104 O W p s zs) (hw : Wf s zs) (hs : FitsU seq) (hk : KIn W A n ps) (hnC : n ≤ C) :
    Calls Try.prog 24 #[.pointer (some ⟨p, 0, none⟩), .int .i64 slot, .agg #[.int .u64 seq, .slice A n C]] W (Saved 104 .u16 O W p s zs slot seq ps) := by
  obtain ⟨q, hq⟩ : ∃ q, q = W.heap.size := ⟨_, rfl⟩
  have H : Hid (Dv 104 O W p s zs ∧ Wf s zs ∧ FitsU seq ∧ KIn W A n ps ∧ n ≤ C ∧ q = W.heap.size) := ⟨hd, hw, hs, hk, hnC, hq⟩
  have HW : Hid (Blk (W.alloc (.cells #[.int .u64 seq, .slice A n C] 27)) q [.int .u64 seq, .slice A n C] 27 ∧ Below W.heap.size W (W.alloc (.cells #[.int .u64 seq, .slice A n C] 27))) := ⟨Blk.new' hq.symm rfl, (Below.refl _ _).alloc (Nat.le_refl _) _⟩
  clear hd hw hs hk hnC
  by_cases hsl : 0 ≤ slot ∧ slot < 2
  · obtain ⟨i, rfl⟩ : ∃ i : Nat, slot = i := ⟨slot.toNat, by omega⟩
    have hi2 : (i : Int) < 2 := hsl.2
    obtain ⟨E, hE⟩ : ∃ E, E = ckE s ps := ⟨_, rfl⟩
    have HE : Hid (E = ckE s ps ∧ svE s i ps = E ∧ i < 2) := ⟨hE, by unfold svE; rw [if_pos hsl, hE], by omega⟩
    clear hE hsl
    go_enter Try.func24, Try.ntmps24
    go_upto_region 3 with fail
    rw [← hq]
    clear hq
    generalize hW1 : World.alloc W _ = W1 at HW ⊢
    clear hW1
    have c0 : W1.cell? ⟨q, 0, none⟩ = some (.int .u64 seq) := HW.out.1.cell 0
    have c1 : W1.cell? ⟨q, 1, none⟩ = some (.slice A n C) := HW.out.1.cell 1
    have HSh : Hid (∀ X, Below W1.heap.size W1 X → Calls Try.prog 48 #[.pointer (some ⟨p, 0, none⟩)] X fun e Y => e = .returned (.agg (shL s).toArray) ∧ Below W1.heap.size W1 Y ∧ Y.cell? ⟨q, 0, none⟩ = some (.int .u64 seq) ∧ Y.cell? ⟨q, 1, none⟩ = some (.slice A n C)) := by
      intro X hX
      refine (shape_of (kdv_under (kdv_under H.out.1 HW.out.2) hX)).mono ?_
      rintro e Y ⟨rfl, hY⟩
      have hb := hX.trans (hY.mono hX.size)
      have kb := HW.out.1.below hb HW.out.1.lt
      exact ⟨rfl, hb, kb.cell 0, kb.cell 1⟩
    have HEn : Hid (∀ X, Below W1.heap.size W1 X → Calls Try.prog 9 #[.agg (shL s).toArray, .agg #[.int .u64 seq, .slice A n C]] X fun e Z => ∃ av nv cv, e = .returned (.tuple #[.slice av nv cv, .int .u16 E]) ∧ RowAt (fun j => W.heap.size ≤ j ∧ j < Z.heap.size) Z (.slice av nv cv) (ckO s seq ps) ∧ Below W.heap.size W Z ∧ Z.cell? ⟨q, 0, none⟩ = some (.int .u64 seq) ∧ Z.cell? ⟨q, 1, none⟩ = some (.slice A n C)) := by
      intro X hX
      have hbX := HW.out.2.trans (hX.mono HW.out.2.size)
      refine (kencode_of s seq A n C ps X (by have := H.out.2.1.right.1; omega) H.out.2.2.1 (H.out.2.2.2.1.below hbX) H.out.2.2.2.2.1).mono ?_
      rintro e Z ⟨v, rfl, rZ, bZ⟩
      obtain ⟨av, cv, rfl⟩ := rZ.slice
      have hb := hX.trans (bZ.mono hX.size)
      have kb := HW.out.1.below hb HW.out.1.lt
      exact ⟨av, _, cv, by rw [HE.out.1], rZ.mono (fun c hc hlt => ⟨Nat.le_trans hbX.size hc, hlt⟩), hbX.trans (bZ.mono hbX.size), kb.cell 0, kb.cell 1⟩
    go_region_held3 (fun X => X.cell? ⟨q, 0, none⟩ = some (.int .u64 seq) ∧ X.cell? ⟨q, 1, none⟩ = some (.slice A n C)) (first | exact ⟨c0, c1⟩ | exact ⟨d0, d1⟩ | exact ⟨e0, e1⟩)
      (first
      | (go_simp; go_at_call 9; refine (HEn.out _ (by exact bY)).mono ?_; rintro e Z ⟨av, nv, cv, rfl, rZ, bZ, e0, e1⟩)
      | (go_simp; go_at_call 48; refine (HSh.out _ (by exact (Below.refl _ _).drew)).mono ?_; rintro e Y ⟨rfl, bY, d0, d1⟩))
    all_goals (
      have HZ : Hid (RowAt (fun j => W.heap.size ≤ j ∧ j < Z.heap.size) Z (.slice av nv cv) (ckO s seq ps) ∧ Below W.heap.size W Z) := ⟨rZ, bZ⟩
      clear rZ bZ e0 e1 d0 d1 bY HEn HSh c0 c1
      by_cases hE0 : E = 0
      · subst hE0
        have hck : ckE s ps = 0 := HE.out.1.symm
        obtain ⟨ls, hls⟩ : ∃ ls, ls = ckL s seq ps := ⟨_, rfl⟩
        have hO : ckO s seq ps = ls := by unfold ckO; rw [if_pos hck, hls]
        have hsz := ckL_size (seq := seq) hck
        have hsh := ckL_short (seq := seq) hck
        rw [← hls] at hsz hsh
        have hlz : (ls.length : Int) ≤ s.zb := by rw [hls, ckL_length]; exact (ckE_zero.1 hck).2
        have hnv : nv = ls.length := by obtain ⟨_, _, e⟩ := HZ.out.1.slice; cases e; rw [hO]
        have hiz : i < zs.length := by have h1 := H.out.2.1.len; have h2 := H.out.2.1.right.1; have := HE.out.2.2; omega
        have hd1 : Dv 104 (fun x => O x ∧ x < W.heap.size) Z p s zs := kdv_under H.out.1.there HZ.out.2
        have HL : Hid (ls = ckL s seq ps ∧ ckO s seq ps = ls ∧ (∀ D ∈ ls, (D.length : Int) = s.b) ∧ Short ls ∧ (ls.length : Int) ≤ s.zb ∧ nv = ls.length ∧ i < zs.length ∧ RowAt (fun j => W.heap.size ≤ j ∧ j < Z.heap.size) Z (.slice av nv cv) ls ∧ Below W.heap.size W Z) := ⟨hls, hO, hsz, hsh, hlz, hnv, hiz, by rw [← hO]; exact HZ.out.1, HZ.out.2⟩
        have HD : Hid (Dv 104 (fun x => O x ∧ x < W.heap.size) Z p s zs) := hd1
        have hnv4 : nv ≤ 4096 := by have h1 := H.out.2.1.right.2.2.2.1; omega
        clear hls hO hsz hsh hlz hnv hiz hd1 hck HZ
        go_upto_region 7 with (go_at_call 30; refine (reset_of (i : Int) HD.out).mono ?_; rintro e V ⟨rfl, sV⟩)
        rw [resetZ_in] at sV
        have HV : Hid (SvSt 104 (fun x => O x ∧ x < W.heap.size) Z p s (zs.set i (ls.take 0, 0)) V) := by
          have := SvSt.step (O := fun x => O x ∧ x < W.heap.size) (W := Z) (fun x h => .inl h) (Out.refl _ _) sV
          show SvSt 104 (fun x => O x ∧ x < W.heap.size) Z p s (zs.set i (ls.take 0, 0)) V
          simpa using this
        clear sV
        go_wp2
        go_loopw [32] (fun x wr => ∃ k : Nat, x = .int .i64 k ∧ k ≤ nv ∧ SvSt 104 (fun x => O x ∧ x < W.heap.size) Z p s (zs.set i (ls.take k, 0)) wr) (fun x _ => nv - (intOf x).toNat)
        case atStart => exact ⟨0, rfl, Nat.zero_le _, HV.out⟩
        case round =>
          obtain ⟨k, rfl, hk, O', hdk, hOk, hok⟩ := hrel
          rcases Nat.lt_or_ge k nv with hlt | hge
          · obtain ⟨D, hD⟩ : ∃ D, ls[k]? = some D := ⟨ls[k]'(by have := HL.out.2.2.2.2.2.1; omega), by simp⟩
            have row := HL.out.2.2.2.2.2.2.2.1.out hok (fun r e h => by obtain ⟨_, _, r2, _⟩ := HL.out.2.2.2.2.2.2.2.1; have := r2 r e; omega) (fun c _ hc _ h => by omega)
            obtain ⟨b', off, A1, L1, C1, hA, k1, k2, k3, _, k5⟩ := (row.bsin HL.out.2.2.2.1).at hD
            subst hA
            have hAp := append_of (i : Int) A1 L1 C1 D hdk (wf_put H.out.2.1 i k HL.out.2.2.1 HL.out.2.2.2.2.1) k2 k3 k5
            have hk' : (k : Int) < nv := by omega
            have hwk : IntKind.i64.wrap ((k : Int) + 1) = (k : Int) + 1 := by rw [IntKind.wrap_i64]; omega
            have HA : Hid (Calls Try.prog 31 #[.pointer (some ⟨p, 0, none⟩), .int .i64 (i : Int), .slice A1 L1 C1] wr fun e w' => (∃ v, e = .returned v) ∧ SvSt 104 (fun x => O x ∧ x < W.heap.size) Z p s (zs.set i (ls.take (k + 1), 0)) w') := by
              refine hAp.mono ?_
              rintro e w' ⟨rfl, st⟩
              rw [app_next HL.out.2.2.2.2.2.2.1 hD (HL.out.2.2.1 D (List.mem_of_getElem? hD)) HL.out.2.2.2.2.1] at st
              exact ⟨⟨_, rfl⟩, SvSt.step hOk hok st⟩
            clear hAp row k2 k3 k5 hD hdk hOk hok
            go_wp2_with (go_at_call 31; refine HA.out.mono ?_; rintro e w9 ⟨⟨v9, rfl⟩, st9⟩)
            have H9 : Hid (SvSt 104 (fun x => O x ∧ x < W.heap.size) Z p s (zs.set i (ls.take (k + 1), 0)) w9) := st9
            clear st9
            go_roundw
            case rel => exact ⟨k + 1, by simp, by omega, H9.out⟩
            case measure => simp [intOf]; omega
          · obtain rfl : k = nv := by omega
            have htk : ls.take k = ls := List.take_of_length_le (by rw [HL.out.2.2.2.2.2.1]; exact Nat.le_refl _)
            rw [htk] at hdk
            have HF : Hid (Calls Try.prog 53 #[.pointer (some ⟨p, 0, none⟩)] wr fun e w' => (∃ v, e = .returned v) ∧ SvSt 104 O W p s (putZ zs i ls) w') := by
              refine (flush_of hdk).mono ?_
              rintro e w' ⟨hv, st⟩
              exact ⟨hv, SvSt.of (O1 := fun x => O x ∧ x < W.heap.size) (fun x h => h.1) HL.out.2.2.2.2.2.2.2.2 (SvSt.step hOk hok st)⟩
            clear hdk hOk hok htk
            go_wp2_with (go_at_call 53; refine HF.out.mono ?_; rintro e w9 ⟨⟨v9, rfl⟩, st9⟩)
            go_ret
            refine ⟨by rw [HE.out.2.1]; rfl, ?_⟩
            unfold svZ
            rw [if_pos HE.out.2.1, Int.toNat_natCast, ← HL.out.1]
            exact st9
      · have hEb : (E != 0) = true := by simp [hE0]
        have HN : Hid (SvSt 104 O W p s (svZ s zs i seq ps) Z) := by
          have : svZ s zs i seq ps = zs := by unfold svZ; rw [if_neg (by rw [HE.out.2.1]; exact hE0)]
          rw [this]
          exact (SvSt.start H.out.1).under HZ.out.2
        clear hE0 HZ
        go_wp2
        go_ret
        exact ⟨by rw [HE.out.2.1]; rfl, HN.out⟩)
  · have HN : Hid (∀ X, Below W.heap.size W X → Saved 104 .u16 O W p s zs slot seq ps (.returned (.int .u16 1)) X) := by
      intro X hX
      have h1 : svE s slot ps = 1 := by unfold svE; rw [if_neg hsl]
      refine ⟨by rw [h1], ?_⟩
      have : svZ s zs slot seq ps = zs := by unfold svZ; rw [if_neg (by rw [h1]; decide)]
      rw [this]
      exact (SvSt.start H.out.1).under hX
    rcases Int.lt_or_le slot 0 with h0 | h0
    · clear hsl
      go_enter Try.func24, Try.ntmps24
      go_wp2
      go_ret
      exact HN.out _ HW.out.2
    · have h2 : 2 ≤ slot := by omega
      have h0' : ¬ slot < 0 := by omega
      clear hsl
      go_enter Try.func24, Try.ntmps24
      go_wp2
      go_ret
      exact HN.out _ HW.out.2
end Go.Proofs.Yteokhkoaieibmaa

/- What one call of ckpt's Load does. -/
namespace Go.Proofs.Yteokhkoaieibmaa
open Go.RowKit Go.Shelf
set_option linter.unusedVariables false
set_option maxRecDepth 4000

open Classical in
noncomputable def bestStep (s : Sh) (b : Int × List Pl × Int × Int) (l : List (List Int)) (j : Int) : Int × List Pl × Int × Int := if IsK s l ∧ (b.2.2.2 ≠ 0 ∨ b.1 < allSeq l) then (allSeq l, allPs l, j, 0) else b
/-- The best one of the first zones: its number, its places, its zone, the error. -/
noncomputable def bestK (s : Sh) (zs : List Zn) : Nat → Int × List Pl × Int × Int
  | 0 => (0, [], 0, 142)
  | j + 1 => bestStep s (bestK s zs j) (zs.getD j ([], 0)).1 (j : Int)
def LoadGot (k : IntKind) (W : World) (s : Sh) (zs : List Zn) (e : Ending) (w' : World) : Prop :=
  ∃ A n C, e = .returned (.tuple #[.agg #[.int .u64 (bestK s zs 2).1, .slice A n C], .int .i64 (bestK s zs 2).2.2.1, .int k (bestK s zs 2).2.2.2]) ∧ KIn w' A n (bestK s zs 2).2.1 ∧ n ≤ C ∧ Below W.heap.size W w'
theorem best_yes {s : Sh} {zs : List Zn} {j : Nat} {z : Zn} (hz : zs[j]? = some z) (h : IsK s z.1) (h2 : (bestK s zs j).2.2.2 ≠ 0 ∨ (bestK s zs j).1 < allSeq z.1) : bestK s zs (j + 1) = (allSeq z.1, allPs z.1, (j : Int), 0) := by
  have e : zs.getD j ([], 0) = z := by simp [List.getD, hz]
  show bestStep s (bestK s zs j) (zs.getD j ([], 0)).1 (j : Int) = _
  unfold bestStep
  rw [e, if_pos ⟨h, h2⟩]
theorem best_no {s : Sh} {zs : List Zn} {j : Nat} {z : Zn} (hz : zs[j]? = some z) (h : ¬ (IsK s z.1 ∧ ((bestK s zs j).2.2.2 ≠ 0 ∨ (bestK s zs j).1 < allSeq z.1))) : bestK s zs (j + 1) = bestK s zs j := by
  have e : zs.getD j ([], 0) = z := by simp [List.getD, hz]
  show bestStep s (bestK s zs j) (zs.getD j ([], 0)).1 (j : Int) = _
  unfold bestStep
  rw [e, if_neg h]
structure LdSt (q : Nat) (W wr : World) (seq : Int) (A : Option Addr) (N C : Nat) (xs : List Pl) : Prop where
  res : Blk wr q [.int .u64 0, .slice none 0 0] 27
  best : Blk wr (q + 1) [.int .u64 seq, .slice A N C] 27
  kin : KIn wr A N xs
  cap : N ≤ C
  bel : Below W.heap.size W wr
  heap : q = W.heap.size
theorem LdSt.below {q : Nat} {W wr w' : World} {seq : Int} {A : Option Addr} {N C : Nat} {xs : List Pl} (h : LdSt q W wr seq A N C xs) (hb : Below wr.heap.size wr w') : LdSt q W w' seq A N C xs :=
  ⟨h.res.below hb h.res.lt, h.best.below hb h.best.lt, h.kin.below hb, h.cap, h.bel.trans (hb.mono h.bel.size), h.heap⟩
theorem results_cell_3 {P : Program} {fn : Func} {p u v : Tmp} {ty : TypeId} (h : fn.results = #[.cell p ty, .tmp u, .tmp v]) (tmps : Array Value) (w : World) (g : Nat) (L : List Value) (t : TypeId) (d : TypeDesc) (hp : tmps.getD p undef = .pointer (some ⟨g, 0, none⟩))
    (hb : Blk w g L t) (hu : P.underlying ty = some d) (hd : d.isRow = true) (hi : (P.info? ty).map (·.size) = some L.length) (x y : Value) (hx : tmps.getD u undef = x) (hy : tmps.getD v undef = y) : (results fn tmps).run P w = .ok (.tuple #[.agg L.toArray, x, y]) w := by
  subst hx; subst hy
  have hl := run_loadVar_row (P := P) w g t ty L.toArray (0, 0) d hb hu (by cases d <;> first | rfl | cases hd) (by simpa using hi)
  have : (results fn tmps).run P w = ((asAddr (tmps.getD p undef)).run P w).andThen fun a w₁ => ((loadVar ty a).run P w₁).andThen fun z w₂ => .ok (.tuple #[z, tmps.getD u undef, tmps.getD v undef]) w₂ := by
    simp only [results, h]
    simp [Sem.run_bind, Result.andThen]
  rw [this, hp]
  simp [asAddr, hl, Result.andThen]
set_option maxHeartbeats 4000000 in
theorem kload_of {O : Nat → Prop} {W : World} {p : Nat} {s : Sh} {zs : List Zn} (hd : Dv 104 O W p s zs) (hw : Wf s zs) :
    Calls Try.prog 22 #[.pointer (some ⟨p, 0, none⟩)] W (LoadGot .u16 W s zs) := by
  obtain ⟨q, hq⟩ : ∃ q, q = W.heap.size := ⟨_, rfl⟩
  have st0 : LdSt q W ((W.alloc (.cells #[.int .u64 0, .slice none 0 0] 27)).alloc (.cells #[.int .u64 0, .slice none 0 0] 27)) 0 none 0 0 [] := ⟨(Blk.new' hq.symm rfl).alloc _, Blk.new' (by simp [hq]) rfl, kin_none _, Nat.le_refl _, ((Below.refl _ _).alloc (Nat.le_refl _) _).alloc (by simp) _, hq⟩
  have H : Hid (Dv 104 O W p s zs ∧ Wf s zs ∧ q = W.heap.size ∧ 6 ≤ zs.length ∧ -9223372036854775808 ≤ s.z) := ⟨hd, hw, hq, by have h1 := hw.len; have h2 := hw.right.1; omega, by have h2 := hw.right.1; omega⟩
  clear hd hw
  go_enter Try.func22, Try.ntmps22
  go_upto_region 2 with fail
  rw [← hq]
  clear hq
  generalize hW0 : World.alloc (World.alloc W _) _ = W0 at st0 ⊢
  have H0 : Hid (LdSt q W W0 0 none 0 0 []) := st0
  clear st0 hW0
  go_wp2
  go_loopw [6, 7, 12] (fun va ve x wr => ∃ (j : Nat) (S Aa Er : Int) (xs : List Pl) (A : Option Addr) (N C : Nat), x = .int .i64 j ∧ va = .int .i64 Aa ∧ ve = .int .u16 Er ∧ j ≤ 2 ∧ bestK s zs j = (S, xs, Aa, Er) ∧ LdSt q W wr S A N C xs) (fun _ _ x _ => 2 - (intOf x).toNat)
  case atStart => exact ⟨0, 0, 0, 142, [], none, 0, 0, rfl, rfl, rfl, by omega, rfl, H0.out⟩
  case round =>
    obtain ⟨j, S, Aa, Er, xs, A, N, C, rfl, rfl, rfl, hj, hbest, st⟩ := hrel
    rcases Nat.lt_or_ge j 2 with hlt | hge
    · obtain ⟨z, hz⟩ : ∃ z, zs[j]? = some z := ⟨zs[j]'(by have := H.out.2.2.2.1; omega), by simp⟩
      have hj' : (j : Int) < 2 := by omega
      have hwj : IntKind.i64.wrap ((j : Int) + 1) = (j : Int) + 1 := by rw [IntKind.wrap_i64]; omega
      have HSh : Hid (Calls Try.prog 48 #[.pointer (some ⟨p, 0, none⟩)] wr fun e Y => e = .returned (.agg (shL s).toArray) ∧ Below wr.heap.size wr Y) := shape_of (kdv_under H.out.1 st.bel)
      have HHe : Hid (∀ Y, Below wr.heap.size wr Y → Calls Try.prog 49 #[.pointer (some ⟨p, 0, none⟩), .int .i64 (j : Int)] Y fun e X => ∃ av nv cv, e = .returned (.slice av nv cv) ∧ BsIn X av nv z.1 ∧ Below wr.heap.size wr X) := by
        intro Y hY
        refine (kheld_of j (kdv_under (kdv_under H.out.1 st.bel) hY) H.out.2.1 hz).mono ?_
        rintro e X ⟨v, rfl, row, bX⟩
        obtain ⟨av, cv, rfl⟩ := row.slice
        exact ⟨av, _, cv, rfl, row.bsin (H.out.2.1.short z (List.mem_of_getElem? hz)), hY.trans (bX.mono hY.size)⟩
      have HDe : Hid (∀ X av nv cv, BsIn X av nv z.1 → Below wr.heap.size wr X → Calls Try.prog 16 #[.agg (shL s).toArray, .slice av nv cv] X fun e Y => ∃ A' n' C', e = .returned (.tuple #[.agg #[.int .u64 (dkS s z.1), .slice A' n' C'], .int .u16 (dkE s z.1)]) ∧ KIn Y A' n' (dkX s z.1) ∧ n' ≤ C' ∧ Below wr.heap.size wr Y) := by
        intro X av nv cv hb hX
        refine (kdecode_of s av nv cv z.1 X H.out.2.2.2.2 hb).mono ?_
        rintro e Y ⟨A', n', C', rfl, h1, h2, h3⟩
        exact ⟨A', n', C', rfl, h1, h2, hX.trans (h3.mono hX.size)⟩
      obtain ⟨S', hS'⟩ : ∃ S', S' = dkS s z.1 := ⟨_, rfl⟩
      obtain ⟨E', hE'⟩ : ∃ E', E' = dkE s z.1 := ⟨_, rfl⟩
      rw [← hS', ← hE'] at HDe
      have HST : Hid (LdSt q W wr S A N C xs ∧ bestK s zs j = (S, xs, Aa, Er) ∧ zs[j]? = some z ∧ S' = dkS s z.1 ∧ E' = dkE s z.1) := ⟨st, hbest, hz, hS', hE'⟩
      clear st hbest hz hS' hE'
      go_upto_region 6 with (first
        | (go_at_call 16; refine (HDe.out X av nv cv hbs bX).mono ?_; rintro e Y2 ⟨A', n', C', rfl, k2, hn2, b2⟩)
        | (go_at_call 49; refine (HHe.out Y bY).mono ?_; rintro e X ⟨av, nv, cv, rfl, hbs, bX⟩)
        | (go_at_call 48; refine HSh.out.mono ?_; rintro e Y ⟨rfl, bY⟩))
      obtain ⟨q9, hq9⟩ : ∃ q9, q9 = Y2.heap.size := ⟨_, rfl⟩
      have H9 : Hid (LdSt q W (Y2.alloc (.cells #[.int .u64 S', .slice A' n' C'] 27)) S A N C xs ∧ Blk (Y2.alloc (.cells #[.int .u64 S', .slice A' n' C'] 27)) q9 [.int .u64 S', .slice A' n' C'] 27 ∧ KIn (Y2.alloc (.cells #[.int .u64 S', .slice A' n' C'] 27)) A' n' (dkX s z.1) ∧ n' ≤ C' ∧ q + 2 ≤ q9) := by
        have b3 : Below wr.heap.size wr (Y2.alloc (.cells #[.int .u64 S', .slice A' n' C'] 27)) := b2.alloc b2.size _
        refine ⟨HST.out.1.below b3, Blk.new' hq9.symm rfl, k2.alloc _, hn2, ?_⟩
        have h1 := HST.out.1.best.lt
        have h2 := b2.size
        omega
      rw [← hq9]
      clear hq9 k2 hn2 b2 hbs bX bY HSh HHe HDe
      generalize hW9 : World.alloc Y2 _ = W9 at H9 ⊢
      clear hW9
      by_cases hK : IsK s z.1
      · have hE0 : E' = 0 := by rw [HST.out.2.2.2.2]; unfold dkE; rw [if_pos hK]
        have hSS : S' = allSeq z.1 := by rw [HST.out.2.2.2.1]; unfold dkS; rw [if_pos hK]
        have hXX : dkX s z.1 = allPs z.1 := by unfold dkX; rw [if_pos hK]
        have HK : Hid (IsK s z.1 ∧ S' = allSeq z.1 ∧ dkX s z.1 = allPs z.1) := ⟨hK, hSS, hXX⟩
        clear hK hSS hXX
        subst hE0
        have c0 : W9.cell? ⟨q9, 0, none⟩ = some (.int .u64 S') := H9.out.2.1.cell 0
        have c1 : W9.cell? ⟨q9, 1, none⟩ = some (.slice A' n' C') := H9.out.2.1.cell 1
        have d0 : W9.cell? ⟨q + 1, 0, none⟩ = some (.int .u64 S) := H9.out.1.best.cell 0
        have d1 : W9.cell? ⟨q + 1, 1, none⟩ = some (.slice A N C) := H9.out.1.best.cell 1
        have z0 := H9.out.1.best.frozen 0
        have z1 := H9.out.1.best.frozen 1
        have hqn : q9 ≠ q + 1 := by have := H9.out.2.2.2.2; omega
        have HT : Hid ((Er ≠ 0 ∨ S < S') → LdSt q W ((W9.setCell ⟨q + 1, 0, none⟩ (.int .u64 S')).setCell ⟨q + 1, 1, none⟩ (.slice A' n' C')) S' A' n' C' (allPs z.1) ∧ bestK s zs (j + 1) = (S', allPs z.1, (j : Int), 0)) := by
          intro h
          have hqw := H.out.2.2.1
          have e1 : Blk (W9.setCell ⟨q + 1, 0, none⟩ (.int .u64 S')) (q + 1) [.int .u64 S', .slice A N C] 27 := H9.out.1.best.set 0 _
          refine ⟨⟨(H9.out.1.res.set_other (by show q ≠ q + 1; omega) _).set_other (by show q ≠ q + 1; omega) _, e1.set 1 _, ?_, H9.out.2.2.2.1, (H9.out.1.bel.setCell (by show W.heap.size ≤ q + 1; omega) _).setCell (by show W.heap.size ≤ q + 1; omega) _, hqw⟩, ?_⟩
          · rw [← HK.out.2.2]
            exact (H9.out.2.2.1.set (st_not H9.out.1.best) 0 _).set (st_not e1) 1 _
          · rw [best_yes HST.out.2.2.1 HK.out.1 (by rw [HST.out.2.1, ← HK.out.2.1]; exact h), ← HK.out.2.1]
        have HU : Hid (¬ (Er ≠ 0 ∨ S < S') → bestK s zs (j + 1) = (S, xs, Aa, Er)) := by
          intro h
          rw [best_no HST.out.2.2.1 (by rw [HST.out.2.1, ← HK.out.2.1]; exact fun h' => h h'.2), HST.out.2.1]
        by_cases hEr : Er = 0
        · subst hEr
          by_cases hSl : S < S'
          · have hSl' : decide (S < S') = true := by simp [hSl]
            have HR := HT.out (.inr hSl)
            have HR2 : Hid (LdSt q W ((W9.setCell ⟨q + 1, 0, none⟩ (.int .u64 S')).setCell ⟨q + 1, 1, none⟩ (.slice A' n' C')) S' A' n' C' (allPs z.1) ∧ bestK s zs (j + 1) = (S', allPs z.1, (j : Int), 0)) := HR
            clear HR hSl HT HU
            go_wp2
            go_roundw
            case rel => exact ⟨j + 1, S', j, 0, allPs z.1, A', n', C', by simp, rfl, rfl, by omega, HR2.out.2, HR2.out.1⟩
            case measure => simp [intOf]; omega
          · have hSl' : decide (S < S') = false := by simp; omega
            have HR2 : Hid (LdSt q W W9 S A N C xs ∧ bestK s zs (j + 1) = (S, xs, Aa, 0)) := ⟨H9.out.1, HU.out (by simp; omega)⟩
            clear HT HU hSl
            go_wp2
            go_roundw
            case rel => exact ⟨j + 1, S, Aa, 0, xs, A, N, C, by simp, rfl, rfl, by omega, HR2.out.2, HR2.out.1⟩
            case measure => simp [intOf]; omega
        · have hErb : (Er != 0) = true := by simp [hEr]
          have HR := HT.out (.inl hEr)
          have HR2 : Hid (LdSt q W ((W9.setCell ⟨q + 1, 0, none⟩ (.int .u64 S')).setCell ⟨q + 1, 1, none⟩ (.slice A' n' C')) S' A' n' C' (allPs z.1) ∧ bestK s zs (j + 1) = (S', allPs z.1, (j : Int), 0)) := HR
          clear HR hEr HT HU
          go_wp2
          go_roundw
          case rel => exact ⟨j + 1, S', j, 0, allPs z.1, A', n', C', by simp, rfl, rfl, by omega, HR2.out.2, HR2.out.1⟩
          case measure => simp [intOf]; omega
      · have hE1 : E' = 141 := by rw [HST.out.2.2.2.2]; unfold dkE; rw [if_neg hK]
        have HR2 : Hid (LdSt q W W9 S A N C xs ∧ bestK s zs (j + 1) = (S, xs, Aa, Er)) := ⟨H9.out.1, by rw [best_no HST.out.2.2.1 (fun h => hK h.1), HST.out.2.1]⟩
        clear hK
        subst hE1
        go_wp2
        go_roundw
        case rel => exact ⟨j + 1, S, Aa, Er, xs, A, N, C, by simp, rfl, rfl, by omega, HR2.out.2, HR2.out.1⟩
        case measure => simp [intOf]; omega
    · obtain rfl : j = 2 := by omega
      have k0 : wr.cell? ⟨q + 1, 0, none⟩ = some (.int .u64 S) := st.best.cell 0
      have k1 : wr.cell? ⟨q + 1, 1, none⟩ = some (.slice A N C) := st.best.cell 1
      have d0 : wr.cell? ⟨q, 0, none⟩ = some (.int .u64 0) := st.res.cell 0
      have d1 : wr.cell? ⟨q, 1, none⟩ = some (.slice none 0 0) := st.res.cell 1
      have z0 := st.res.frozen 0
      have z1 := st.res.frozen 1
      have HZ : Hid (Blk ((wr.setCell ⟨q, 0, none⟩ (.int .u64 S)).setCell ⟨q, 1, none⟩ (.slice A N C)) q [.int .u64 S, .slice A N C] 27 ∧ LoadGot .u16 W s zs (.returned (.tuple #[.agg #[.int .u64 S, .slice A N C], .int .i64 Aa, .int .u16 Er])) ((wr.setCell ⟨q, 0, none⟩ (.int .u64 S)).setCell ⟨q, 1, none⟩ (.slice A N C))) := by
        have e1 : Blk (wr.setCell ⟨q, 0, none⟩ (.int .u64 S)) q [.int .u64 S, .slice none 0 0] 27 := st.res.set 0 _
        have hqw := H.out.2.2.1
        refine ⟨e1.set 1 _, A, N, C, by rw [hbest], by rw [hbest]; exact (st.kin.set (st_not st.res) 0 _).set (st_not e1) 1 _, st.cap, (st.bel.setCell (by show W.heap.size ≤ q; omega) _).setCell (by show W.heap.size ≤ q; omega) _⟩
      clear st hbest
      go_wp2
      exact bodyPost_ret (results_cell_3 (p := 2) (u := 3) (v := 4) (ty := 27) rfl _ _ q _ _ _ rfl HZ.out.1 Try.underlying27 rfl Try.info_state _ _ rfl rfl) rfl HZ.out.2
end Go.Proofs.Yteokhkoaieibmaa

/- What one call of known does: the chapter's examples. -/
namespace Go.Proofs.Yteokhkoaieibmaa
open Go.RowKit Go.Shelf
set_option linter.unusedVariables false
set_option maxRecDepth 4000

def s0 : Sh := ⟨6, 8, 64, 2⟩
theorem s0_right : RightS s0 := by decide
theorem good_nil {s : Sh} (h : RightS s) : GoodK s [] := ⟨h, fun i p q hp => by simp at hp, by simp⟩
theorem mK_nil {s : Sh} (h : RightS s) : mK s [] = 1 := by
  have := roomN_pos h
  unfold mK
  exact manyN_end (k := 0) (by omega) (by simp) (.inl rfl)
theorem ck_nil : ckE s0 [] = 0 := ckE_zero.2 ⟨good_nil s0_right, by rw [mK_nil s0_right]; decide⟩
theorem putZ_len (zs : List Zn) (i : Nat) (ls : List (List Int)) : (putZ zs i ls).length = zs.length := by simp [putZ, flushZ]
theorem putZ_at {zs : List Zn} {i : Nat} {ls : List (List Int)} (h : i < zs.length) : (putZ zs i ls)[i]? = some (ls, (ls.length : Int)) := by
  simp [putZ, flushZ, fl, h]
theorem putZ_other {zs : List Zn} {i j : Nat} {ls : List (List Int)} {z : Zn} (h : i ≠ j) (hz : zs[j]? = some z) : (putZ zs i ls)[j]? = some (z.1, (z.1.length : Int)) := by
  simp [putZ, flushZ, fl, h, hz]
theorem wf_putZ {s : Sh} {zs : List Zn} (h : Wf s zs) (i : Nat) {seq : Int} {ps : List Pl} (hE : ckE s ps = 0) : Wf s (putZ zs i (ckL s seq ps)) := by
  have := wf_put h i (ckL s seq ps).length (ckL_size (seq := seq) hE) (by rw [ckL_length]; exact (ckE_zero.1 hE).2)
  rw [List.take_of_length_le (Nat.le_refl _)] at this
  exact this.flush
theorem svZ_ok {s : Sh} {zs : List Zn} {i : Nat} {seq : Int} {ps : List Pl} (hi : i < 2) (hE : ckE s ps = 0) : svE s i ps = 0 ∧ svZ s zs i seq ps = putZ zs i (ckL s seq ps) := by
  have h1 : svE s i ps = 0 := by unfold svE; rw [if_pos (by omega), hE]
  refine ⟨h1, ?_⟩
  unfold svZ
  rw [if_pos h1, Int.toNat_natCast]
/-- Zone i has the greater one (or the only one): it is told. -/
theorem best_i {s : Sh} {zs : List Zn} {z0 z1 : Zn} (h0 : zs[0]? = some z0) (h1 : zs[1]? = some z1) :
    (IsK s z0.1 → ¬ (IsK s z1.1 ∧ allSeq z0.1 < allSeq z1.1) → bestK s zs 2 = (allSeq z0.1, allPs z0.1, 0, 0)) ∧ (IsK s z1.1 → (IsK s z0.1 → allSeq z0.1 < allSeq z1.1) → bestK s zs 2 = (allSeq z1.1, allPs z1.1, 1, 0)) := by
  have b0 : bestK s zs 0 = (0, [], 0, 142) := rfl
  refine ⟨fun k0 hn => ?_, fun k1 hs => ?_⟩
  · have e1 : bestK s zs 1 = (allSeq z0.1, allPs z0.1, 0, 0) := best_yes (j := 0) h0 k0 (.inl (by rw [b0]; decide))
    rw [best_no (j := 1) h1 (by rw [e1]; intro h; exact hn ⟨h.1, by simpa using h.2⟩), e1]
  · by_cases k0 : IsK s z0.1
    · have e1 : bestK s zs 1 = (allSeq z0.1, allPs z0.1, 0, 0) := best_yes (j := 0) h0 k0 (.inl (by rw [b0]; decide))
      exact best_yes (j := 1) h1 k1 (.inr (by rw [e1]; exact hs k0))
    · have e1 : bestK s zs 1 = (0, [], 0, 142) := by rw [best_no (j := 0) h0 (fun h => k0 h.1), b0]
      exact best_yes (j := 1) h1 k1 (.inl (by rw [e1]; decide))
def zk1 : List Zn := putZ (emptyZ 6) 0 (ckL s0 5 [])
def zk2 : List Zn := putZ zk1 1 (ckL s0 6 [])
theorem zk1_wf : Wf s0 zk1 := wf_putZ (empty_wf s0_right) 0 ck_nil
theorem zk2_wf : Wf s0 zk2 := wf_putZ zk1_wf 1 ck_nil
theorem best_k : bestK s0 zk2 2 = (6, [], 1, 0) := by
  have l1 : zk1.length = 6 := by simp [zk1, putZ_len, emptyZ]
  have e0 : zk1[0]? = some (ckL s0 5 [], ((ckL s0 5 []).length : Int)) := putZ_at (by simp [emptyZ])
  have e1 : zk2[0]? = some (ckL s0 5 [], ((ckL s0 5 []).length : Int)) := putZ_other (by decide) e0
  have e2 : zk2[1]? = some (ckL s0 6 [], ((ckL s0 6 []).length : Int)) := putZ_at (by rw [l1]; decide)
  have k5 := isK_enc (s := s0) (seq := 5) (ps := []) (by unfold FitsU; omega) (by simp) ck_nil
  have k6 := isK_enc (s := s0) (seq := 6) (ps := []) (by unfold FitsU; omega) (by simp) ck_nil
  have := (best_i e1 e2).2 k6.1 (fun _ => by rw [k5.2.1, k6.2.1]; decide)
  rw [this, k6.2.1, k6.2.2]
theorem sv1 : svE s0 0 [] = 0 ∧ svZ s0 (emptyZ 6) 0 5 [] = zk1 := svZ_ok (i := 0) (by decide) ck_nil
theorem sv2 : svE s0 1 [] = 0 ∧ svZ s0 zk1 1 6 [] = zk2 := svZ_ok (i := 1) (by decide) ck_nil
theorem room64 : roomK 64 = 2 := by decide
set_option maxHeartbeats 4000000 in
theorem kknown_any (W : World) : Calls Try.prog 11 #[] W fun e w' => e = .returned (.bool true) ∧ Below W.heap.size W w' := by
  obtain ⟨q, hq⟩ : ∃ q, q = W.heap.size := ⟨_, rfl⟩
  have hb : Blk (W.alloc (.cells #[.int .i64 6, .int .i64 8, .int .i64 64, .int .i64 2] 23)) q (shL s0) 23 := Blk.new' hq.symm rfl
  have hbel : Below W.heap.size W (W.alloc (.cells #[.int .i64 6, .int .i64 8, .int .i64 64, .int .i64 2] 23)) := (Below.refl _ _).alloc (Nat.le_refl _) _
  go_enter Try.func11, Try.ntmps11
  go_upto_region 2 with fail
  rw [← hq]
  generalize hW1 : World.alloc _ _ = W1 at *
  have e0 : W1.cell? ⟨q, 0, none⟩ = some (.int .i64 6) := hb.cell 0
  have e1 : W1.cell? ⟨q, 1, none⟩ = some (.int .i64 8) := hb.cell 1
  have e2 : W1.cell? ⟨q, 2, none⟩ = some (.int .i64 64) := hb.cell 2
  have e3 : W1.cell? ⟨q, 3, none⟩ = some (.int .i64 2) := hb.cell 3
  have HB : Hid (Below W.heap.size W W1 ∧ Blk W1 q (shL s0) 23) := ⟨hbel, hb⟩
  clear hW1 hb hbel hq
  go_wp2_with fail
  refine (show Calls Try.prog 9 #[.agg #[.int .i64 6, .int .i64 8, .int .i64 64, .int .i64 2], .agg #[.int .u64 5, .slice none 0 0]] W1 (EncGot W1 s0 5 []) from kencode_of s0 5 none 0 0 [] W1 (by decide) (by unfold FitsU; omega) (kin_none _) (Nat.le_refl _)).mono ?_
  rintro e W2 ⟨v, rfl, r2, b2⟩
  rw [ck_nil]
  have hO : ckO s0 5 [] = ckL s0 5 [] := by unfold ckO; rw [if_pos ck_nil]
  have hL1 : (ckL s0 5 []).length = 1 := by rw [ckL_length, mK_nil s0_right]
  obtain ⟨av, cv, hv⟩ := r2.slice
  rw [hO, hL1] at hv
  subst hv
  have H2 : Hid (Below W.heap.size W W2 ∧ Blk W2 q (shL s0) 23) := ⟨HB.out.1.trans (b2.mono HB.out.1.size), HB.out.2.below b2 HB.out.2.lt⟩
  have f0 : W2.cell? ⟨q, 0, none⟩ = some (.int .i64 6) := H2.out.2.cell 0
  have f1 : W2.cell? ⟨q, 1, none⟩ = some (.int .i64 8) := H2.out.2.cell 1
  have f2 : W2.cell? ⟨q, 2, none⟩ = some (.int .i64 64) := H2.out.2.cell 2
  have f3 : W2.cell? ⟨q, 3, none⟩ = some (.int .i64 2) := H2.out.2.cell 3
  clear r2 b2 hO hL1 e0 e1 e2 e3
  go_wp2_with fail
  refine (show Calls Try.prog 29 #[.agg #[.int .i64 6, .int .i64 8, .int .i64 64, .int .i64 2]] W2 (Newed 104 W2 s0) from new_of s0 W2 (by decide)).mono ?_
  rintro e W3 ⟨b3, (⟨hno, _⟩ | ⟨_, p, rfl, hd3⟩)⟩
  · exact (hno s0_right).elim
  have H3 : Hid (Below W.heap.size W W3 ∧ Dv 104 (fun x => W2.heap.size ≤ x) W3 p s0 (emptyZ 6) ∧ Below W2.heap.size W2 W3) := ⟨H2.out.1.trans (b3.mono H2.out.1.size), hd3, b3⟩
  clear b3 hd3 f0 f1 f2 f3
  go_wp2_with fail
  refine (ksave_of 0 5 none 0 0 [] H3.out.2.1 (empty_wf s0_right) (by unfold FitsU; omega) (kin_none _) (Nat.le_refl _)).mono ?_
  rintro e W4 ⟨rfl, O4, hd4, hO4, ho4⟩
  rw [sv1.1]
  rw [sv1.2] at hd4
  have hs2 := H2.out.1.size
  have H4 : Hid (Below W.heap.size W W4 ∧ Dv 104 O4 W4 p s0 zk1 ∧ (∀ x, O4 x → W.heap.size ≤ x)) := by
    have h1 := H3.out.1.size
    refine ⟨H3.out.1.trans (ho4.below h1 (fun x hx => by omega)), hd4, fun x hx => ?_⟩
    rcases hO4 x hx with h | h <;> omega
  clear hd4 hO4 ho4 hs2
  go_wp2_with fail
  refine (ksave_of 1 6 none 0 0 [] H4.out.2.1 zk1_wf (by unfold FitsU; omega) (kin_none _) (Nat.le_refl _)).mono ?_
  rintro e W5 ⟨rfl, O5, hd5, hO5, ho5⟩
  rw [sv2.1]
  rw [sv2.2] at hd5
  have H5 : Hid (Below W.heap.size W W5 ∧ Dv 104 O5 W5 p s0 zk2) := ⟨H4.out.1.trans (ho5.below H4.out.1.size (fun x hx => H4.out.2.2 x hx)), hd5⟩
  clear hd5 hO5 ho5
  go_wp2_with fail
  refine (kload_of H5.out.2 zk2_wf).mono ?_
  rintro e W6 ⟨A6, n6, C6, rfl, _, _, b6⟩
  rw [best_k]
  dsimp only
  have H6 : Hid (Below W.heap.size W W6) := H5.out.1.trans (b6.mono H5.out.1.size)
  clear b6
  obtain ⟨q7, hq7⟩ : ∃ q7, q7 = W6.heap.size := ⟨_, rfl⟩
  have hb7 : Blk (W6.alloc (.cells #[.int .u64 6, .slice A6 n6 C6] 27)) q7 [.int .u64 6, .slice A6 n6 C6] 27 := Blk.new' hq7.symm rfl
  have H7 : Hid (Below W.heap.size W (W6.alloc (.cells #[.int .u64 6, .slice A6 n6 C6] 27))) := H6.out.alloc H6.out.size _
  go_upto_region 9 with fail
  rw [← hq7]
  clear hq7
  generalize hW7 : World.alloc W6 _ = W7 at hb7 H7 ⊢
  have c0 : W7.cell? ⟨q7, 0, none⟩ = some (.int .u64 6) := hb7.cell 0
  clear hb7 hW7
  have hRm : ∀ X : World, Calls Try.prog 13 #[.int .i64 64] X fun e w' => e = .returned (.int .i64 2) ∧ w' = X := fun X => by have := kroom_of 64 X; rw [room64] at this; exact this
  go_wp2_with (go_at_call 13; refine (hRm _).mono ?_; rintro e w' ⟨rfl, hw'⟩; replace hw' := hw'.symm; subst hw')
  go_ret
  exact ⟨rfl, H7.out⟩
end Go.Proofs.Yteokhkoaieibmaa

/- What one call of the document's Same does: states that are alike. -/
namespace Go.Proofs.Yteokhkoaieibmaa
open Go.RowKit
set_option linter.unusedVariables false
set_option maxRecDepth 4000

theorem neqP_same (x : Pl) (W : World) : (Go.binOp .neq 83 (.agg #[.int .u32 x.1.1, .int .u64 x.1.2, .int .i64 x.2.1, .int .i64 x.2.2]) (.agg #[.int .u32 x.1.1, .int .u64 x.1.2, .int .i64 x.2.1, .int .i64 x.2.2])).run Try.prog W = .ok (.bool false) W := by
  go_simp
theorem KIn.place {w : World} {a : Option Addr} {n : Nat} {xs : List Pl} (h : KIn w a n xs) {i : Nat} (hi : i < n) : ∃ b off x, a = some ⟨b, off, none⟩ ∧ xs[i]? = some x ∧ w.cell? ⟨b, off + i * 4, none⟩ = some (.int .u32 x.1.1) ∧ w.cell? ⟨b, off + i * 4 + 1, none⟩ = some (.int .u64 x.1.2) ∧ w.cell? ⟨b, off + i * 4 + 2, none⟩ = some (.int .i64 x.2.1) ∧ w.cell? ⟨b, off + i * 4 + 3, none⟩ = some (.int .i64 x.2.2) := by
  obtain ⟨x, hx⟩ : ∃ x, xs[i]? = some x := ⟨xs[i]'(by have := h.1; omega), by simp⟩
  obtain ⟨b, off, ha, hc⟩ := h.2.2.2.resolve_left (by omega)
  exact ⟨b, off, x, ha, hx, hc i x hx 0 _ rfl, hc i x hx 1 _ rfl, hc i x hx 2 _ rfl, hc i x hx 3 _ rfl⟩
set_option maxHeartbeats 2000000 in
theorem dkSame_of (seq : Int) (A : Option Addr) (n C : Nat) (B : Option Addr) (m D : Nat) (xs : List Pl) (w : World) (h1 : KIn w A n xs) (h2 : KIn w B m xs) :
    Calls Try.prog 18 #[.agg #[.int .u64 seq, .slice A n C], .agg #[.int .u64 seq, .slice B m D]] w fun e w' => e = .returned (.bool true) ∧ Below w.heap.size w w' := by
  obtain ⟨q, hq⟩ : ∃ q, q = w.heap.size := ⟨_, rfl⟩
  have hnm : m = n := h2.1.symm.trans h1.1
  subst hnm
  have hn : m ≤ 9223372036854775807 := by have := h1.2.1; unfold maxLen at this; omega
  have HW : Hid (Blk ((w.alloc (.cells #[.int .u64 seq, .slice A m C] 27)).alloc (.cells #[.int .u64 seq, .slice B m D] 27)) q [.int .u64 seq, .slice A m C] 27 ∧ Blk ((w.alloc (.cells #[.int .u64 seq, .slice A m C] 27)).alloc (.cells #[.int .u64 seq, .slice B m D] 27)) (q + 1) [.int .u64 seq, .slice B m D] 27 ∧ Below w.heap.size w ((w.alloc (.cells #[.int .u64 seq, .slice A m C] 27)).alloc (.cells #[.int .u64 seq, .slice B m D] 27))) :=
    ⟨(Blk.new' hq.symm rfl).alloc _, Blk.new' (by simp [hq]) rfl, ((Below.refl _ _).alloc (Nat.le_refl _) _).alloc (by simp) _⟩
  have H : Hid (KIn w A m xs ∧ KIn w B m xs) := ⟨h1, h2⟩
  clear h1 h2
  go_enter Try.func18, Try.ntmps18
  go_upto_region 1 with fail
  rw [← hq]
  clear hq
  generalize hW : World.alloc (World.alloc w _) _ = W at HW ⊢
  clear hW
  have KK : Hid (W.cell? ⟨q, 0, none⟩ = some (.int .u64 seq) ∧ W.cell? ⟨q, 1, none⟩ = some (.slice A m C) ∧ W.cell? ⟨q + 1, 0, none⟩ = some (.int .u64 seq) ∧ W.cell? ⟨q + 1, 1, none⟩ = some (.slice B m D)) := ⟨HW.out.1.cell 0, HW.out.1.cell 1, HW.out.2.1.cell 0, HW.out.2.1.cell 1⟩
  have H2 : Hid (KIn W A m xs ∧ KIn W B m xs ∧ Below w.heap.size w W) := ⟨H.out.1.below HW.out.2.2, H.out.2.below HW.out.2.2, HW.out.2.2⟩
  clear H HW
  have K : Hid (∀ (j : Nat), (W.drewN j).cell? ⟨q, 0, none⟩ = some (.int .u64 seq) ∧ (W.drewN j).cell? ⟨q, 1, none⟩ = some (.slice A m C) ∧ (W.drewN j).cell? ⟨q + 1, 0, none⟩ = some (.int .u64 seq) ∧ (W.drewN j).cell? ⟨q + 1, 1, none⟩ = some (.slice B m D)) := fun j => KK.out
  clear KK
  have a0 : W.cell? ⟨q, 0, none⟩ = some (.int .u64 seq) := (K.out 0).1
  have a1 : W.cell? ⟨q, 1, none⟩ = some (.slice A m C) := (K.out 0).2.1
  have b0 : W.cell? ⟨q + 1, 0, none⟩ = some (.int .u64 seq) := (K.out 0).2.2.1
  have b1 : W.cell? ⟨q + 1, 1, none⟩ = some (.slice B m D) := (K.out 0).2.2.2
  go_wp2
  clear a0 a1 b0 b1
  go_loopw [5] (fun x wr => ∃ i j : Nat, x = .int .i64 i ∧ i ≤ m ∧ wr = W.drewN j) (fun x _ => m - (intOf x).toNat)
  case atStart => exact ⟨0, 0, rfl, Nat.zero_le _, rfl⟩
  case round =>
    obtain ⟨i, j, rfl, hi, rfl⟩ := hrel
    have a0 : ∀ j, (W.drewN j).cell? ⟨q, 0, none⟩ = some (.int .u64 seq) := fun j => (K.out j).1
    have a1 : ∀ j, (W.drewN j).cell? ⟨q, 1, none⟩ = some (.slice A m C) := fun j => (K.out j).2.1
    have b0 : ∀ j, (W.drewN j).cell? ⟨q + 1, 0, none⟩ = some (.int .u64 seq) := fun j => (K.out j).2.2.1
    have b1 : ∀ j, (W.drewN j).cell? ⟨q + 1, 1, none⟩ = some (.slice B m D) := fun j => (K.out j).2.2.2
    rcases Nat.lt_or_ge i m with hlt | hge
    · obtain ⟨ba, oa, x, rfl, hx, x0, x1, x2, x3⟩ := H2.out.1.place hlt
      obtain ⟨bb, ob, y, rfl, hy, y0, y1, y2, y3⟩ := H2.out.2.1.place hlt
      rw [hx] at hy
      obtain rfl := Option.some.inj hy
      have hi' : (i : Int) < m := by omega
      have hwi : IntKind.i64.wrap ((i : Int) + 1) = (i : Int) + 1 := by rw [IntKind.wrap_i64]; omega
      have X0 : ∀ j, (W.drewN j).cell? ⟨ba, oa + i * 4, none⟩ = some (.int .u32 x.1.1) := fun j => x0
      have X1 : ∀ j, (W.drewN j).cell? ⟨ba, oa + i * 4 + 1, none⟩ = some (.int .u64 x.1.2) := fun j => x1
      have X2 : ∀ j, (W.drewN j).cell? ⟨ba, oa + i * 4 + 2, none⟩ = some (.int .i64 x.2.1) := fun j => x2
      have X3 : ∀ j, (W.drewN j).cell? ⟨ba, oa + i * 4 + 3, none⟩ = some (.int .i64 x.2.2) := fun j => x3
      have Y0 : ∀ j, (W.drewN j).cell? ⟨bb, ob + i * 4, none⟩ = some (.int .u32 x.1.1) := fun j => y0
      have Y1 : ∀ j, (W.drewN j).cell? ⟨bb, ob + i * 4 + 1, none⟩ = some (.int .u64 x.1.2) := fun j => y1
      have Y2 : ∀ j, (W.drewN j).cell? ⟨bb, ob + i * 4 + 2, none⟩ = some (.int .i64 x.2.1) := fun j => y2
      have Y3 : ∀ j, (W.drewN j).cell? ⟨bb, ob + i * 4 + 3, none⟩ = some (.int .i64 x.2.2) := fun j => y3
      clear x0 x1 x2 x3 y0 y1 y2 y3 hx hy
      go_wp2
      go_quiet (fail)
      rename_i nq
      try simp only [World.drewN_drewN]
      go_wp2
      go_roundw
      case rel => exact ⟨i + 1, j + nq, by simp, by omega, rfl⟩
      case measure => simp [intOf]; omega
    · have hi' : ¬ (i : Int) < m := by omega
      go_wp2
      go_ret
      exact ⟨rfl, H2.out.2.2.trans ((below_drewN W _).mono H2.out.2.2.size)⟩
end Go.Proofs.Yteokhkoaieibmaa
