/- P22 -/
import Derived.Test.YtcdnjeiamihhbabGreatP21
set_option linter.unusedVariables false
set_option maxRecDepth 4000
namespace Go.Proofs.YtcdnjeiamihhbabGreat
open Go.RowKit Go.Shelf
theorem Wf.set {s : Sh} {zs : List Zn} (h : Wf s zs) (i : Nat) (z : Zn) (hz : (z.1.length : Int) ≤ s.zb ∧ 0 ≤ z.2 ∧ z.2 ≤ z.1.length ∧ ∀ D ∈ z.1, (D.length : Int) = s.b) : Wf s (zs.set i z) := by
 refine ⟨h.right, by rw [List.length_set]; exact h.len, fun y hy => ?_⟩
 rcases List.mem_or_eq_of_mem_set hy with h1 | h1
 ·exact h.zone y h1
 ·rw [h1]; exact hz
theorem atZ_mem {zs : List Zn} {zn : Int} (h : 0 ≤ zn) (h' : zn ≤ (zs.length : Int) - 1) : atZ zs zn ∈ zs := by
 unfold atZ
 rw [if_pos h]
 have : zn.toNat < zs.length := by omega
 simp [List.getD, this]
theorem Wf.app {s : Sh} {zs : List Zn} (h : Wf s zs) (zn : Int) (D : List Int) : Wf s (appZ s zs zn D) := by
 unfold appZ
 split
 ·rename_i ho
  split
  ·exact h
  ·rename_i hf
   refine h.set _ _ ?_
   have hz := h.zone _ (atZ_mem ho.1 ho.2.1)
   unfold appFull at hf
   refine ⟨by simp; omega, hz.2.1, by simp; omega, fun E hE => ?_⟩
   rcases List.mem_append.1 hE with h1 | h1
   ·exact hz.2.2.2 E h1
   ·rw [List.mem_singleton.1 h1]; exact ho.2.2
 ·exact h
theorem Wf.map {s : Sh} {zs : List Zn} (h : Wf s zs) (f : Nat → Zn → Zn) (hf : ∀ i z, z ∈ zs → ((f i z).1.length : Int) ≤ s.zb ∧ 0 ≤ (f i z).2 ∧ (f i z).2 ≤ (f i z).1.length ∧ ∀ D ∈ (f i z).1, (D.length : Int) = s.b) : Wf s (zs.mapIdx f) := by
 refine ⟨h.right, by simp; exact h.len, fun y hy => ?_⟩
 obtain ⟨i, hi, rfl⟩ := List.mem_mapIdx.1 hy
 exact hf i _ (List.getElem_mem hi)
theorem Wf.flush {s : Sh} {zs : List Zn} (h : Wf s zs) : Wf s (flushZ zs) :=
 h.map _ (fun i z hz => by have := h.zone z hz; exact ⟨this.1, by simp [fl], by simp [fl], this.2.2.2⟩)
theorem keptB_length {us : List (List Int)} {k t : Int} {n : Int} (h : ∀ D ∈ us, (D.length : Int) = n) : ∀ D ∈ keptB us k t, (D.length : Int) = n := by
 intro D hD
 unfold keptB at hD
 rcases List.mem_append.1 hD with h1 | h1
 ·exact h D (List.mem_of_mem_take h1)
 ·split at h1
  ·rename_i E hE
   split at h1
   ·rw [List.mem_singleton.1 h1, tornL_length (by omega)]
    exact h E (List.mem_of_getElem? hE)
   ·simp at h1
  ·simp at h1
theorem crashB_length {bs : List (List Int)} {d : Nat} {k t : Int} {n : Int} (h : ∀ D ∈ bs, (D.length : Int) = n) : ∀ D ∈ crashB bs d k t, (D.length : Int) = n := by
 intro D hD
 rcases List.mem_append.1 hD with h1 | h1
 ·exact h D (List.mem_of_mem_take h1)
 ·exact keptB_length (fun E hE => h E (List.mem_of_mem_drop hE)) D h1
theorem Wf.crash {s : Sh} {zs : List Zn} (h : Wf s zs) (ls : List (Int × Int)) : Wf s (crashZ ls zs) :=
 h.map _ (fun i z hz => by
  have hh := h.zone z hz
  have := crashB_len z.1 z.2.toNat (lossAt ls i).1 (lossAt ls i).2
  exact ⟨by simp only [cr1]; omega, by simp only [cr1]; omega, by simp only [cr1]; omega, crashB_length hh.2.2.2⟩)
section
/-- A device, somewhere in what it had and in new memory. -/
def SvSt (T : TypeId) (O : Nat → Prop) (W : World) (p : Nat) (s : Sh) (zs : List Zn) (wr : World) : Prop := ∃ O', Dv T O' wr p s zs ∧ (∀ x, O' x → O x ∨ W.heap.size ≤ x) ∧ Out O W wr
section
variable {T : TypeId} {O : Nat → Prop} {W wr w' : World} {p : Nat} {s : Sh} {zs zs' : List Zn}
theorem SvSt.start (h : Dv T O W p s zs) : SvSt T O W p s zs W := ⟨O, h, fun _ h => .inl h, Out.refl _ _⟩
theorem SvSt.under (h : SvSt T O W p s zs wr) (hb : Below wr.heap.size wr w') : SvSt T O W p s zs w' := by
 obtain ⟨O', hd, hO, ho⟩ := h
 exact ⟨O', kdv_under hd hb, hO, ho.under hb⟩
theorem SvSt.step {O' : Nat → Prop} (hO : ∀ x, O' x → O x ∨ W.heap.size ≤ x) (ho : Out O W wr) (hs : Step T O' wr p s zs' w') : SvSt T O W p s zs' w' := by
 obtain ⟨hd, h2⟩ := hs
 refine ⟨_, hd, fun x hx => ?_, ho.trans h2 hO⟩
 rcases hx with hx | hx
 ·exact hO x hx
 ·have := ho.size; exact .inr (by omega)
theorem SvSt.of {O1 : Nat → Prop} {W1 : World} (hO : ∀ x, O1 x → O x) (hb : Below W.heap.size W W1) (h : SvSt T O1 W1 p s zs wr) : SvSt T O W p s zs wr := by
 obtain ⟨O', hd, h1, h2⟩ := h
 refine ⟨O', hd, fun x hx => ?_, (below_out O hb).trans h2 (fun j e => .inl (hO j e))⟩
 rcases h1 x hx with h | h
 ·exact .inl (hO x h)
 ·have := hb.size; exact .inr (by omega)
end
/-- A device lies in blocks that are there. -/
theorem Dv.there {T : TypeId} {O : Nat → Prop} {W : World} {p : Nat} {s : Sh} {zs : List Zn} (h : Dv T O W p s zs) : Dv T (fun x => O x ∧ x < W.heap.size) W p s zs := by
 obtain ⟨g, c, vs, hv⟩ := h
 exact ⟨g, c, vs, hv.mono (fun x h1 h2 => ⟨h1, h2⟩)⟩
def putZ (zs : List Zn) (i : Nat) (ls : List (List Int)) : List Zn := flushZ (zs.set i (ls, 0))
open Classical in
/-- What Save answers, and what the device holds then. -/
noncomputable def svE (s : Sh) (slot : Int) (ps : List Pl) : Int := if 0 ≤ slot ∧ slot < 2 then ckE s ps else 1
open Classical in
noncomputable def svZ (s : Sh) (zs : List Zn) (slot : Int) (seq : Int) (ps : List Pl) : List Zn := if svE s slot ps = 0 then putZ zs slot.toNat (ckL s seq ps) else zs
def Saved (T : TypeId) (k : IntKind) (O : Nat → Prop) (W : World) (p : Nat) (s : Sh) (zs : List Zn) (slot seq : Int) (ps : List Pl) (e : Ending) (w' : World) : Prop :=
 e = .returned (.int k (svE s slot ps)) ∧ SvSt T O W p s (svZ s zs slot seq ps) w'
theorem app_next {s : Sh} {zs : List Zn} {i k : Nat} {ls : List (List Int)} {D : List Int} (hi : i < zs.length) (hD : ls[k]? = some D) (hl : (D.length : Int) = s.b) (hz : (ls.length : Int) ≤ s.zb) :
  appZ s (zs.set i (ls.take k, 0)) i D = zs.set i (ls.take (k + 1), 0) := by
 have hk := (List.getElem?_eq_some_iff.1 hD).1
 have hat : atZ (zs.set i (ls.take k, 0)) i = (ls.take k, 0) := atZ_in (by simp [hi])
 have hok : appOk s (zs.set i (ls.take k, 0)) i D := ⟨by omega, by simp; omega, hl⟩
 have hfull : ¬ appFull s (zs.set i (ls.take k, 0)) i := by
  unfold appFull
  rw [hat]
  simp only [List.length_take]
  omega
 unfold appZ
 rw [if_pos hok, if_neg hfull, hat, Int.toNat_natCast, List.set_set, take_snoc hD]
theorem ckL_size {s : Sh} {seq : Int} {ps : List Pl} (h : ckE s ps = 0) : ∀ D ∈ ckL s seq ps, (D.length : Int) = s.b := by
 obtain ⟨hg, hm⟩ := ckE_zero.1 h
 have hr := roomN_pos hg.1
 have hp := pow_bounds (show s.b ∈ PowR from hg.1.2.2.2.2.1)
 intro D hD
 obtain ⟨i, hi, rfl⟩ := ckL_mem hD
 have := partK_length_le (roomN s) i ps
 rw [ckB_length (by omega)]
 omega
theorem wf_put {s : Sh} {zs : List Zn} (h : Wf s zs) (i k : Nat) {ls : List (List Int)} (hl : ∀ D ∈ ls, (D.length : Int) = s.b) (hz : (ls.length : Int) ≤ s.zb) : Wf s (zs.set i (ls.take k, 0)) :=
 h.set i _ ⟨by simp only [List.length_take]; omega, by omega, by omega, fun D hD => hl D (List.mem_of_mem_take hD)⟩
set_option maxHeartbeats 4000000 in
theorem ksave_of (slot seq : Int) (A : Option Addr) (n C : Nat) (ps : List Pl) {O : Nat → Prop} {W : World} {p : Nat} {s : Sh} {zs : List Zn} (hd : Dv 105 O W p s zs) (hw : Wf s zs) (hs : FitsU seq) (hk : KIn W A n ps) (hnC : n ≤ C) :
  Calls Tryz.prog 26 #[.pointer (some ⟨p, 0, none⟩), .int .i64 slot, .agg #[.int .u64 seq, .slice A n C]] W (Saved 105 .u16 O W p s zs slot seq ps) := by
 obtain ⟨q, hq⟩ : ∃ q, q = W.heap.size := ⟨_, rfl⟩
 have H : Hid (Dv 105 O W p s zs ∧ Wf s zs ∧ FitsU seq ∧ KIn W A n ps ∧ n ≤ C ∧ q = W.heap.size) := ⟨hd, hw, hs, hk, hnC, hq⟩
 have HW : Hid (Blk (W.alloc (.cells #[.int .u64 seq, .slice A n C] 78)) q [.int .u64 seq, .slice A n C] 78 ∧ Below W.heap.size W (W.alloc (.cells #[.int .u64 seq, .slice A n C] 78))) := ⟨Blk.new' hq.symm rfl, (Below.refl _ _).alloc (Nat.le_refl _) _⟩
 clear hd hw hs hk hnC
 by_cases hsl : 0 ≤ slot ∧ slot < 2
 ·obtain ⟨i, rfl⟩ : ∃ i : Nat, slot = i := ⟨slot.toNat, by omega⟩
  have hi2 : (i : Int) < 2 := hsl.2
  obtain ⟨E, hE⟩ : ∃ E, E = ckE s ps := ⟨_, rfl⟩
  have HE : Hid (E = ckE s ps ∧ svE s i ps = E ∧ i < 2) := ⟨hE, by unfold svE; rw [if_pos hsl, hE], by omega⟩
  clear hE hsl
  go_enter Tryz.func26, Tryz.ntmps26
  go_upto_region 3 with fail
  rw [← hq]
  clear hq
  generalize hW1 : World.alloc W _ = W1 at HW ⊢
  clear hW1
  have c0 : W1.cell? ⟨q, 0, none⟩ = some (.int .u64 seq) := HW.out.1.cell 0
  have c1 : W1.cell? ⟨q, 1, none⟩ = some (.slice A n C) := HW.out.1.cell 1
  have HSh : Hid (∀ X, Below W1.heap.size W1 X → Calls Tryz.prog 28 #[.pointer (some ⟨p, 0, none⟩)] X fun e Y => e = .returned (.agg (shL s).toArray) ∧ Below W1.heap.size W1 Y ∧ Y.cell? ⟨q, 0, none⟩ = some (.int .u64 seq) ∧ Y.cell? ⟨q, 1, none⟩ = some (.slice A n C)) := by
   intro X hX
   refine (shape_of (kdv_under (kdv_under H.out.1 HW.out.2) hX)).mono ?_
   rintro e Y ⟨rfl, hY⟩
   have hb := hX.trans (hY.mono hX.size)
   have kb := HW.out.1.below hb HW.out.1.lt
   exact ⟨rfl, hb, kb.cell 0, kb.cell 1⟩
  have HEn : Hid (∀ X, Below W1.heap.size W1 X → Calls Tryz.prog 61 #[.agg (shL s).toArray, .agg #[.int .u64 seq, .slice A n C]] X fun e Z => ∃ av nv cv, e = .returned (.tuple #[.slice av nv cv, .int .u16 E]) ∧ RowAt (fun j => W.heap.size ≤ j ∧ j < Z.heap.size) Z (.slice av nv cv) (ckO s seq ps) ∧ Below W.heap.size W Z ∧ Z.cell? ⟨q, 0, none⟩ = some (.int .u64 seq) ∧ Z.cell? ⟨q, 1, none⟩ = some (.slice A n C)) := by
   intro X hX
   have hbX := HW.out.2.trans (hX.mono HW.out.2.size)
   refine (kencode_of s seq A n C ps X (by have := H.out.2.1.right.1; omega) H.out.2.2.1 (H.out.2.2.2.1.below hbX) H.out.2.2.2.2.1).mono ?_
   rintro e Z ⟨v, rfl, rZ, bZ⟩
   obtain ⟨av, cv, rfl⟩ := rZ.slice
   have hb := hX.trans (bZ.mono hX.size)
   have kb := HW.out.1.below hb HW.out.1.lt
   exact ⟨av, _, cv, by rw [HE.out.1], rZ.mono (fun c hc hlt => ⟨Nat.le_trans hbX.size hc, hlt⟩), hbX.trans (bZ.mono hbX.size), kb.cell 0, kb.cell 1⟩
  go_region_held3 (fun X => X.cell? ⟨q, 0, none⟩ = some (.int .u64 seq) ∧ X.cell? ⟨q, 1, none⟩ = some (.slice A n C)) (first | exact ⟨c0, c1⟩ | exact ⟨d0, d1⟩ | exact ⟨e0, e1⟩)
   (first
   | (go_simp; go_at_call 61; refine (HEn.out _ (by exact bY)).mono ?_; rintro e Z ⟨av, nv, cv, rfl, rZ, bZ, e0, e1⟩)
   | (go_simp; go_at_call 28; refine (HSh.out _ (by exact (Below.refl _ _).drew)).mono ?_; rintro e Y ⟨rfl, bY, d0, d1⟩))
  all_goals (
   have HZ : Hid (RowAt (fun j => W.heap.size ≤ j ∧ j < Z.heap.size) Z (.slice av nv cv) (ckO s seq ps) ∧ Below W.heap.size W Z) := ⟨rZ, bZ⟩
   clear rZ bZ e0 e1 d0 d1 bY HEn HSh c0 c1
   by_cases hE0 : E = 0
   ·subst hE0
    have hck : ckE s ps = 0 := HE.out.1.symm
    obtain ⟨ls, hls⟩ : ∃ ls, ls = ckL s seq ps := ⟨_, rfl⟩
    have hO : ckO s seq ps = ls := by unfold ckO; rw [if_pos hck, hls]
    have hsz := ckL_size (seq := seq) hck
    have hsh := ckL_short (seq := seq) hck
    rw [← hls] at hsz hsh
    have hlz : (ls.length : Int) ≤ s.zb := by rw [hls, ckL_length]; exact (ckE_zero.1 hck).2
    have hnv : nv = ls.length := by obtain ⟨_, _, e⟩ := HZ.out.1.slice; cases e; rw [hO]
    have hiz : i < zs.length := by have h1 := H.out.2.1.len; have h2 := H.out.2.1.right.1; have := HE.out.2.2; omega
    have hd1 : Dv 105 (fun x => O x ∧ x < W.heap.size) Z p s zs := kdv_under H.out.1.there HZ.out.2
    have HL : Hid (ls = ckL s seq ps ∧ ckO s seq ps = ls ∧ (∀ D ∈ ls, (D.length : Int) = s.b) ∧ Short ls ∧ (ls.length : Int) ≤ s.zb ∧ nv = ls.length ∧ i < zs.length ∧ RowAt (fun j => W.heap.size ≤ j ∧ j < Z.heap.size) Z (.slice av nv cv) ls ∧ Below W.heap.size W Z) := ⟨hls, hO, hsz, hsh, hlz, hnv, hiz, by rw [← hO]; exact HZ.out.1, HZ.out.2⟩
    have HD : Hid (Dv 105 (fun x => O x ∧ x < W.heap.size) Z p s zs) := hd1
    have hnv4 : nv ≤ 4096 := by have h1 := H.out.2.1.right.2.2.2.1; omega
    clear hls hO hsz hsh hlz hnv hiz hd1 hck HZ
    go_upto_region 7 with (go_at_call 62; refine (reset_of (i : Int) HD.out).mono ?_; rintro e V ⟨rfl, sV⟩)
    rw [resetZ_in] at sV
    have HV : Hid (SvSt 105 (fun x => O x ∧ x < W.heap.size) Z p s (zs.set i (ls.take 0, 0)) V) := by
     have := SvSt.step (O := fun x => O x ∧ x < W.heap.size) (W := Z) (fun x h => .inl h) (Out.refl _ _) sV
     show SvSt 105 (fun x => O x ∧ x < W.heap.size) Z p s (zs.set i (ls.take 0, 0)) V
     simpa using this
    clear sV
    go_wp2
    go_loopw [32] (fun x wr => ∃ k : Nat, x = .int .i64 k ∧ k ≤ nv ∧ SvSt 105 (fun x => O x ∧ x < W.heap.size) Z p s (zs.set i (ls.take k, 0)) wr) (fun x _ => nv - (intOf x).toNat)
    case atStart => exact ⟨0, rfl, Nat.zero_le _, HV.out⟩
    case round =>
     obtain ⟨k, rfl, hk, O', hdk, hOk, hok⟩ := hrel
     rcases Nat.lt_or_ge k nv with hlt | hge
     ·obtain ⟨D, hD⟩ : ∃ D, ls[k]? = some D := ⟨ls[k]'(by have := HL.out.2.2.2.2.2.1; omega), by simp⟩
      have row := HL.out.2.2.2.2.2.2.2.1.out hok (fun r e h => by obtain ⟨_, _, r2, _⟩ := HL.out.2.2.2.2.2.2.2.1; have := r2 r e; omega) (fun c _ hc _ h => by omega)
      obtain ⟨b', off, A1, L1, C1, hA, k1, k2, k3, _, k5⟩ := (row.bsin HL.out.2.2.2.1).at hD
      subst hA
      have hAp := append_of (i : Int) A1 L1 C1 D hdk (wf_put H.out.2.1 i k HL.out.2.2.1 HL.out.2.2.2.2.1) k2 k3 k5
      have hk' : (k : Int) < nv := by omega
      have hwk : IntKind.i64.wrap ((k : Int) + 1) = (k : Int) + 1 := by rw [IntKind.wrap_i64]; omega
      have HA : Hid (Calls Tryz.prog 63 #[.pointer (some ⟨p, 0, none⟩), .int .i64 (i : Int), .slice A1 L1 C1] wr fun e w' => (∃ v, e = .returned v) ∧ SvSt 105 (fun x => O x ∧ x < W.heap.size) Z p s (zs.set i (ls.take (k + 1), 0)) w') := by
       refine hAp.mono ?_
       rintro e w' ⟨rfl, st⟩
       rw [app_next HL.out.2.2.2.2.2.2.1 hD (HL.out.2.2.1 D (List.mem_of_getElem? hD)) HL.out.2.2.2.2.1] at st
       exact ⟨⟨_, rfl⟩, SvSt.step hOk hok st⟩
      clear hAp row k2 k3 k5 hD hdk hOk hok
      go_wp2_with (go_at_call 63; refine HA.out.mono ?_; rintro e w9 ⟨⟨v9, rfl⟩, st9⟩)
      have H9 : Hid (SvSt 105 (fun x => O x ∧ x < W.heap.size) Z p s (zs.set i (ls.take (k + 1), 0)) w9) := st9
      clear st9
      go_roundw
      case rel => exact ⟨k + 1, by simp, by omega, H9.out⟩
      case measure => simp [intOf]; omega
     ·obtain rfl : k = nv := by omega
      have htk : ls.take k = ls := List.take_of_length_le (by rw [HL.out.2.2.2.2.2.1]; exact Nat.le_refl _)
      rw [htk] at hdk
      have HF : Hid (Calls Tryz.prog 55 #[.pointer (some ⟨p, 0, none⟩)] wr fun e w' => (∃ v, e = .returned v) ∧ SvSt 105 O W p s (putZ zs i ls) w') := by
       refine (flush_of hdk).mono ?_
       rintro e w' ⟨hv, st⟩
       exact ⟨hv, SvSt.of (O1 := fun x => O x ∧ x < W.heap.size) (fun x h => h.1) HL.out.2.2.2.2.2.2.2.2 (SvSt.step hOk hok st)⟩
      clear hdk hOk hok htk
      go_wp2_with (go_at_call 55; refine HF.out.mono ?_; rintro e w9 ⟨⟨v9, rfl⟩, st9⟩)
      go_ret
      refine ⟨by rw [HE.out.2.1]; rfl, ?_⟩
      unfold svZ
      rw [if_pos HE.out.2.1, Int.toNat_natCast, ← HL.out.1]
      exact st9
   ·have hEb : (E != 0) = true := by simp [hE0]
    have HN : Hid (SvSt 105 O W p s (svZ s zs i seq ps) Z) := by
     have : svZ s zs i seq ps = zs := by unfold svZ; rw [if_neg (by rw [HE.out.2.1]; exact hE0)]
     rw [this]
     exact (SvSt.start H.out.1).under HZ.out.2
    clear hE0 HZ
    go_wp2
    go_ret
    exact ⟨by rw [HE.out.2.1]; rfl, HN.out⟩)
 ·have HN : Hid (∀ X, Below W.heap.size W X → Saved 105 .u16 O W p s zs slot seq ps (.returned (.int .u16 1)) X) := by
   intro X hX
   have h1 : svE s slot ps = 1 := by unfold svE; rw [if_neg hsl]
   refine ⟨by rw [h1], ?_⟩
   have : svZ s zs slot seq ps = zs := by unfold svZ; rw [if_neg (by rw [h1]; decide)]
   rw [this]
   exact (SvSt.start H.out.1).under hX
  rcases Int.lt_or_le slot 0 with h0 | h0
  ·clear hsl
   go_enter Tryz.func26, Tryz.ntmps26
   go_wp2
   go_ret
   exact HN.out _ HW.out.2
  ·have h2 : 2 ≤ slot := by omega
   have h0' : ¬ slot < 0 := by omega
   clear hsl
   go_enter Tryz.func26, Tryz.ntmps26
   go_wp2
   go_ret
   exact HN.out _ HW.out.2
end
end Go.Proofs.YtcdnjeiamihhbabGreat
