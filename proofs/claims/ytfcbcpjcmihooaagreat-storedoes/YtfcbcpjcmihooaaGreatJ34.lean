/- Texts of this seat, one behind the other: SgDN, StDn, StBo, StDo. -/
import Derived.Test.YtfcbcpjcmihooaaGreatJ29
import Derived.Test.YtfcbcpjcmihooaaGreatJ33
import Derived.Test.YtfcbcpjcmihooaaGreatJ22
import Derived.Test.YtfcbcpjcmihooaaGreatJ13
import Derived.Deep.DeepCutAuto
import Derived.Test.YtfcbcpjcmihooaaGreatJ24
/- What one call of the document's New does; of SameInts. -/
namespace Go.Proofs.YtfcbcpjcmihooaaGreat
open Go.RowKit
set_option linter.unusedVariables false
set_option maxRecDepth 4000

theorem newZ_snoc {k : Nat} (h : 2 ≤ k) : newZ (k + 1) = newZ k ++ [1] := by
  unfold newZ
  have e : k + 1 - 2 = (k - 2) + 1 := by omega
  rw [e, List.replicate_succ']
  rfl
theorem newZ_fits (k : Nat) : ∀ x ∈ newZ k, Fits8 x := fun x hx => by
  have := newZ_fit k x hx
  unfold Fits8; omega

def DNewGot (w : World) (s : Sh) (e : Ending) (w' : World) : Prop :=
  (¬ RightS s ∧ e = .returned (.pointer none) ∧ Below w.heap.size w w') ∨
  (RightS s ∧ ∃ p g c, e = .returned (.pointer (some ⟨p, 0, none⟩)) ∧ SegR w' p g c s (newZ s.z.toNat) ∧ w.heap.size ≤ p ∧ w.heap.size ≤ g ∧ Below w.heap.size w w')
/-- The state of New. -/
structure NewSt (w wr : World) (q p g c k : Nat) (s : Sh) : Prop where
  sh : Blk wr q (shL s) 23
  st : Blk wr p [.int .i64 s.z, .int .i64 s.zb, .int .i64 s.b, .int .i64 s.r, .slice (some ⟨g, 0, none⟩) k c] 194
  row : wr.ownsRow w.heap.size 5 1 (.slice (some ⟨g, 0, none⟩) k c) k (kInts .u8 (newZ k))
  hp : w.heap.size ≤ p
  bel : Below w.heap.size w wr
theorem NewSt.drewN {w wr : World} {q p g c k : Nat} {s : Sh} (h : NewSt w wr q p g c k s) (n : Nat) : NewSt w (wr.drewN n) q p g c k s :=
  ⟨h.sh.drewN n, h.st.drewN n, h.row, h.hp, sbelow_drewN h.bel n⟩

theorem dgNew_of (s : Sh) (w : World) (hz : -9223372036854775808 ≤ s.z) :
    Calls Tryz.prog 103 #[.agg (shL s).toArray] w fun e w' => DNewGot w s e w' := by
  have hr := rRight_of s (w.alloc (.cells (shL s).toArray 23)) hz
  obtain ⟨z, zb, b, r⟩ := s
  obtain ⟨W, hW⟩ : ∃ W, W = w.alloc (.cells (shL ⟨z, zb, b, r⟩).toArray 23) := ⟨_, rfl⟩
  have bw : Below w.heap.size w W := by rw [hW]; exact (Below.refl _ _).alloc (Nat.le_refl _) _
  have hs : W.heap.size = w.heap.size + 1 := by rw [hW]; simp
  have hbk : Blk W w.heap.size (shL ⟨z, zb, b, r⟩) 23 := by rw [hW]; exact Blk.new' rfl rfl
  rw [← hW] at hr
  have HH : Hid (Below w.heap.size w W ∧ W.heap.size = w.heap.size + 1 ∧ Blk W w.heap.size (shL ⟨z, zb, b, r⟩) 23) := ⟨bw, hs, hbk⟩
  have HW : Hid (W = w.alloc (.cells (shL ⟨z, zb, b, r⟩).toArray 23)) := hW
  by_cases hR : RightS ⟨z, zb, b, r⟩
  · rw [decide_eq_true hR] at hr
    have HR : Hid (Calls Tryz.prog 97 #[.agg (shL ⟨z, zb, b, r⟩).toArray] W fun e w' => e = .returned (.bool true) ∧ Below W.heap.size W w') := hr
    have HQ : Hid (RightS ⟨z, zb, b, r⟩) := hR
    clear hr hR hbk hs bw hW hz
    simp only [shL] at *
    go_enter Tryz.func103, Tryz.ntmps103
    go_upto_region 4 with (go_at_call 97; rw [← HW.out]; refine HR.out.mono ?_; rintro e w1 ⟨rfl, hb1⟩)
    have hw1 : Blk w1 w.heap.size [.int .i64 z, .int .i64 zb, .int .i64 b, .int .i64 r] 23 := HH.out.2.2.below hb1 (by have := HH.out.2.1; omega)
    have c0 : w1.cell? ⟨w.heap.size, 0, none⟩ = some (.int .i64 z) := hw1.cell 0
    have c1 : w1.cell? ⟨w.heap.size, 1, none⟩ = some (.int .i64 zb) := hw1.cell 1
    have c2 : w1.cell? ⟨w.heap.size, 2, none⟩ = some (.int .i64 b) := hw1.cell 2
    have c3 : w1.cell? ⟨w.heap.size, 3, none⟩ = some (.int .i64 r) := hw1.cell 3
    obtain ⟨N, hN⟩ : ∃ N : Nat, z = N := ⟨z.toNat, by have := HQ.out.1; simp only at this; omega⟩
    have hN1 : 6 ≤ N ∧ N ≤ 256 := by have := HQ.out.1; have := HQ.out.2.1; simp only at *; omega
    have HW1 : Hid (Blk w1 w.heap.size [.int .i64 z, .int .i64 zb, .int .i64 b, .int .i64 r] 23 ∧ Below w.heap.size w w1 ∧ w.heap.size ≤ w1.heap.size) := ⟨hw1, HH.out.1.trans (below_less hb1 (by have := HH.out.2.1; omega)), by have := hb1.size; have := HH.out.2.1; omega⟩
    clear hw1 hb1
    subst hN
    have hst0 : NewSt w ((w1.alloc (.cells #[.int .u8 4, .int .u8 4] 5)).alloc (.cells #[.int .i64 (N : Int), .int .i64 zb, .int .i64 b, .int .i64 r, .slice (some ⟨w1.heap.size, 0, none⟩) 2 2] 194)) w.heap.size (w1.heap.size + 1) w1.heap.size 2 2 ⟨N, zb, b, r⟩ := by
      have hb2 : Blk (w1.alloc (.cells #[.int .u8 4, .int .u8 4] 5)) w1.heap.size (kInts .u8 (newZ 2)) 5 := Blk.new' rfl rfl
      refine ⟨(HW1.out.1.alloc _).alloc _, Blk.new' (by simp) rfl, blk_own _ (hb2.alloc _) rfl (by unfold maxLen; omega) HW1.out.2.2, by have := HW1.out.2.2; omega, ?_⟩
      exact ((HW1.out.2.1.alloc HW1.out.2.2 _).alloc (by have := HW1.out.2.2; simp; omega) _)
    have HST : Hid (NewSt w ((w1.alloc (.cells #[.int .u8 4, .int .u8 4] 5)).alloc (.cells #[.int .i64 (N : Int), .int .i64 zb, .int .i64 b, .int .i64 r, .slice (some ⟨w1.heap.size, 0, none⟩) 2 2] 194)) w.heap.size (w1.heap.size + 1) w1.heap.size 2 2 ⟨N, zb, b, r⟩) := hst0
    clear hst0
    go_wp2
    generalize hV : World.alloc (World.alloc w1 _) _ = V at HST ⊢
    generalize hp : w1.heap.size + 1 = p at HST ⊢
    generalize hg : w1.heap.size = g at HST ⊢
    generalize hq : w.heap.size = q at HST ⊢
    have HqE : Hid (w.heap.size = q) := hq
    clear hV hp hg c0 c1 c2 c3 HW1 HR HW HH hq
    go_loopw [13] (fun x wr => ∃ (k g c : Nat), 2 ≤ k ∧ k ≤ N ∧ NewSt w wr q p g c k ⟨N, zb, b, r⟩) (fun x wr => match wr.cell? ⟨p, 4, none⟩ with | some (.slice _ n _) => N - n | _ => 0)
    case atStart => exact ⟨2, _, _, Nat.le_refl _, by omega, HST.out⟩
    case round =>
      obtain ⟨k, g', c, hk2, hk, hst⟩ := hrel
      clear HST
      have hall := fun n => hst.drewN n
      have HA : Hid (∀ n, NewSt w (wr.drewN n) q p g' c k ⟨N, zb, b, r⟩) := hall
      have d0 : wr.cell? ⟨q, 0, none⟩ = some (.int .i64 (N : Int)) := hst.sh.cell 0
      have d4 : wr.cell? ⟨p, 4, none⟩ = some (.slice (some ⟨g', 0, none⟩) k c) := hst.st.cell 4
      have HM : Hid (wr.cell? ⟨p, 4, none⟩ = some (.slice (some ⟨g', 0, none⟩) k c)) := d4
      have HK : Hid (2 ≤ k ∧ k ≤ N ∧ N ≤ 256) := ⟨hk2, hk, hN1.2⟩
      clear hall hst
      rcases Nat.lt_or_ge k N with hlt | hge
      · have HL : Hid (k < N) := hlt
        clear hk hk2 hN1
        go_wp2
        go_quiet (fail)
        have hv := HA.out nq
        generalize hV : World.drewN _ _ = V' at hv ⊢
        have v4 : V'.cell? ⟨p, 4, none⟩ = some (.slice (some ⟨g', 0, none⟩) k c) := hv.st.cell 4
        have HV : Hid (NewSt w V' q p g' c k ⟨N, zb, b, r⟩ ∧ w.heap.size ≤ V'.heap.size) := ⟨hv, hv.bel.size⟩
        clear hv hV d0 d4
        go_wp2_with (at_builtin; refine wpList_append_kept (k := .u8) Tryz.underlying36 Tryz.zero_u8 (by omega) rfl (.tmp 25) (.tmp 26) rfl w.heap.size (some ⟨g', 0, none⟩) k c _ rfl (HV.out.1.row.alloc _) (some ⟨V'.heap.size, 0, none⟩) 1 1 [1] rfl (new_nin rfl rfl rfl (fun z hz => by simp at hz; subst hz; exact wf8 (by unfold Fits8; omega)) (by unfold maxLen; omega)) (fun h => by cases h) (by have := HK.out; omega) (by have := HV.out.2; simp; omega) ?_; intro a2 c2 w2 ow2 bl2 gr2; have hb2 : Blk w2 p [.int .i64 (N : Int), .int .i64 zb, .int .i64 b, .int .i64 r, .slice (some ⟨g', 0, none⟩) k c] 194 := (HV.out.1.st.alloc _).grownR gr2 (own_not HV.out.1.row HV.out.1.st (by decide)); have hs2 := (HV.out.1.sh.alloc (.cells #[.int .u8 1] 5)).grownR gr2 (own_not HV.out.1.row HV.out.1.sh (by decide)); have u4 : w2.cell? ⟨p, 4, none⟩ = some (.slice (some ⟨g', 0, none⟩) k c) := hb2.cell 4; have z4 := hb2.frozen 4; have HB : Hid (Blk w2 p [.int .i64 (N : Int), .int .i64 zb, .int .i64 b, .int .i64 r, .slice (some ⟨g', 0, none⟩) k c] 194 ∧ Blk w2 q (shL ⟨N, zb, b, r⟩) 23 ∧ w2.ownsRow w.heap.size 5 1 (.slice a2 (k + 1) c2) (k + 1) (kInts .u8 (newZ k ++ [1])) ∧ Below w.heap.size w w2) := ⟨hb2, hs2, ow2, (HV.out.1.bel.alloc HV.out.2 _).trans bl2⟩; clear hb2 hs2 ow2 bl2 gr2)
        obtain ⟨g2, hg2⟩ : ∃ g2, a2 = some ⟨g2, 0, none⟩ := by
          rcases HB.out.2.2.1.2 with ⟨hv, hn⟩ | ⟨g2, cap, cur, hv, _⟩
          · omega
          · cases hv; exact ⟨g2, rfl⟩
        subst hg2
        have hnew : NewSt w (w2.setCell ⟨p, 4, none⟩ (.slice (some ⟨g2, 0, none⟩) (k + 1) c2)) q p g2 c2 (k + 1) ⟨N, zb, b, r⟩ := by
          refine ⟨HB.out.2.1.set_other (blk_ne' HB.out.2.1 HB.out.1 (by decide)) _, HB.out.1.set 4 _, ?_, HV.out.1.hp, HB.out.2.2.2.setCell (by exact HV.out.1.hp) _⟩
          rw [newZ_snoc HK.out.1]
          exact (out_one w2 p 4 _).own HB.out.2.2.1 (fun x hx e => own_not HB.out.2.2.1 HB.out.1 (by decide) (by rw [← e]; exact hx))
        have HNew : Hid (NewSt w (w2.setCell ⟨p, 4, none⟩ (.slice (some ⟨g2, 0, none⟩) (k + 1) c2)) q p g2 c2 (k + 1) ⟨N, zb, b, r⟩) := hnew
        clear hnew
        go_roundw
        case rel => exact ⟨k + 1, g2, c2, by have := HK.out.1; omega, by have := HL.out; omega, HNew.out⟩
        case measure =>
          have m4 : (w2.setCell ⟨p, 4, none⟩ (.slice (some ⟨g2, 0, none⟩) (k + 1) c2)).cell? ⟨p, 4, none⟩ = some (.slice (some ⟨g2, 0, none⟩) (k + 1) c2) := HNew.out.st.cell 4
          rw [m4, HM.out]
          have := HL.out
          simp only
          omega
      · obtain rfl : k = N := by omega
        clear hk hk2 hN1
        go_wp2
        go_quiet (fail)
        have hv := HA.out nq
        generalize hV : World.drewN _ _ = V' at hv ⊢
        have HV : Hid (NewSt w V' q p g' c k ⟨k, zb, b, r⟩) := hv
        clear hv hV d0 d4
        go_wp2
        go_ret
        refine .inr ⟨HQ.out, p, g', c, rfl, ?_, HV.out.hp, (HV.out.row.lt g' rfl).1, HV.out.bel⟩
        have e : ((k : Int)).toNat = k := by omega
        have el := newZ_length HK.out.1
        show SegR V' p g' c ⟨k, zb, b, r⟩ (newZ ((k : Int)).toNat)
        rw [e]
        refine ⟨?_, ?_, by rw [el]; have := HK.out; omega, newZ_fits k⟩
        · rw [el]; exact HV.out.st
        · rw [el]; exact own_zero HV.out.row
  · rw [decide_eq_false hR] at hr
    have HR : Hid (Calls Tryz.prog 97 #[.agg (shL ⟨z, zb, b, r⟩).toArray] W fun e w' => e = .returned (.bool false) ∧ Below W.heap.size W w') := hr
    have HQ : Hid (¬ RightS ⟨z, zb, b, r⟩) := hR
    clear hr hR hbk hs bw hW hz
    simp only [shL] at *
    go_enter Tryz.func103, Tryz.ntmps103
    go_wp2_with (go_at_call 97; rw [← HW.out]; refine HR.out.mono ?_; rintro e w1 ⟨rfl, hb1⟩)
    go_ret
    exact .inl ⟨HQ.out, rfl, HH.out.1.trans (below_less hb1 (by have := HH.out.2.1; omega))⟩

end Go.Proofs.YtfcbcpjcmihooaaGreat

/- What one call of On (without lists) and New of the document's store does. -/
namespace Go.Proofs.YtfcbcpjcmihooaaGreat
open Go.RowKit
set_option linter.unusedVariables false
set_option maxRecDepth 4000
theorem dmNew0_of (w : World) : Calls Tryz.prog 104 #[] w fun e w' => e = .returned (.pointer (some ⟨w.heap.size, 0, none⟩)) ∧ Blk w' w.heap.size [.slice none 0 0] 170 ∧ Below w.heap.size w w' := by
  go_enter Tryz.func104, Tryz.ntmps104
  go_wp2
  go_ret
  exact ⟨rfl, Blk.new' rfl rfl, (Below.refl _ _).alloc (Nat.le_refl _) _⟩
theorem sdv_made {O : Nat → Prop} {W V : World} {p : Nat} {s : Sh} {zs : List Zn} {k : Rs} {q o : Int} (hd : Dv 142 O W p s zs) (hw : Wf s zs) (hb : Below W.heap.size W V) (hq : FitsU q) (hpd : k.pd = p) (hz : (s.z.toNat : Int) = s.z)
    (hs : SegR V k.pg k.gg k.gc s (newZ s.z.toNat)) (hm : Blk V k.pm [.slice none 0 0] 170) (hl : Blk V k.lb (kInts .u64 (List.replicate s.z.toNat 0)) 40) (hp : Blk V k.ps (sdL k q s.z.toNat o) 102)
    (g1 : W.heap.size ≤ k.pg) (g2 : W.heap.size ≤ k.gg) (g3 : W.heap.size ≤ k.pm) (g6 : W.heap.size ≤ k.lb) (g7 : W.heap.size ≤ k.ps) :
    SdV (fun x => O x ∧ x < W.heap.size) (fun _ => False) V k (newSt s zs q o) := by
  have h6 := hw.right.1
  have hlen := hw.len
  have a1 : k.ps ≠ k.pg := blk_ne' hp hs.hp (by decide)
  have a2 : k.ps ≠ k.pm := blk_ne' hp hm (by decide)
  have a3 : k.ps ≠ k.lb := blk_ne' hp hl (by decide)
  have a4 : k.pg ≠ k.pm := blk_ne' hs.hp hm (by decide)
  have a5 : k.pg ≠ k.lb := blk_ne' hs.hp hl (by decide)
  have a6 : k.pm ≠ k.lb := blk_ne' hm hl (by decide)
  have own : ∀ {x : Nat} {L : List Value} {t : TypeId}, Blk V x L t → t ≠ 5 → x ≠ k.gg := fun hb ht e => own_not hs.hg hb ht (by rw [e]; rfl)
  have b1 : k.ps ≠ k.gg := own hp (by decide)
  have b2 : k.pg ≠ k.gg := own hs.hp (by decide)
  have b3 : k.pm ≠ k.gg := own hm (by decide)
  have b4 : k.lb ≠ k.gg := own hl (by decide)
  refine ⟨?_, ?_, hs, ⟨⟨none, 0, 0, hm, World.ownsRow_nil _ _ _ _, fun g h => by cases h⟩, good_nil⟩, hl, hw, hq, ⟨?_, ?_⟩, ?_, ?_, fun _ _ h => h, ?_⟩
  · show Blk V k.ps (sdL k q (List.replicate s.z.toNat (0 : Int)).length o) 102
    rw [List.length_replicate]
    exact hp
  · rw [hpd]
    obtain ⟨g, c, vs, hv⟩ := hd.there
    exact ⟨g, c, vs, hv.under hb⟩
  · show (newZ s.z.toNat).length = zs.length
    rw [newZ_length (by omega)]
    omega
  · show (List.replicate s.z.toNat (0 : Int)).length = zs.length
    rw [List.length_replicate]
    omega
  · rintro x (⟨_, hx⟩ | hx)
    · exact Nat.lt_of_lt_of_le hx hb.size
    · exact hx.elim
  · rintro x hx
    refine ⟨fun hd => ?_, fun h => h⟩
    rcases hx with rfl | rfl | rfl | rfl | rfl <;> omega
  · simp only [List.nodup_cons, List.mem_cons, List.not_mem_nil, or_false, not_or, List.nodup_nil, and_true, not_false_eq_true]
    exact ⟨⟨a1, b1, a2, a3⟩, ⟨b2, a4, a5⟩, ⟨fun e => b3 e.symm, fun e => b4 e.symm⟩, a6⟩
set_option maxHeartbeats 4000000 in
theorem don_nil {O : Nat → Prop} {W : World} {p : Nat} {s : Sh} {zs : List Zn} (hd : Dv 142 O W p s zs) (hw : Wf s zs) :
    Calls Tryz.prog 47 #[.pointer (some ⟨p, 0, none⟩), .int .u64 0, .slice none 0 0, .slice none 0 0, .int .i64 0] W fun e w' => Below W.heap.size W w' ∧ ∃ k, e = .returned (.pointer (some ⟨k.ps, 0, none⟩)) ∧ SdV (fun x => O x ∧ x < W.heap.size) (fun _ => False) w' k (newSt s zs 0 0) ∧ ∀ x, k.has x → W.heap.size ≤ x := by
  obtain ⟨N, hN⟩ : ∃ N : Nat, s.z = N := ⟨s.z.toNat, by have := hw.right.1; omega⟩
  have hN1 : 6 ≤ N ∧ N ≤ 256 := by have := hw.right.1; have := hw.right.2.1; omega
  have H : Hid (Dv 142 O W p s zs ∧ Wf s zs ∧ s.z = (N : Int)) := ⟨hd, hw, hN⟩
  have hmk := run_make_row' (P := Tryz.prog) 94 40 (.int .u64 0) 8 Tryz.underlying94 Tryz.zero_u64s rfl .i64 .i64 N (by omega) (by omega)
  have HX : Hid (∀ Y, Below W.heap.size W Y → Y.cell? ⟨p, 0, none⟩ = some (.int .i64 (N : Int)) ∧ Y.cell? ⟨p, 1, none⟩ = some (.int .i64 s.zb) ∧ Y.cell? ⟨p, 2, none⟩ = some (.int .i64 s.b) ∧ Y.cell? ⟨p, 3, none⟩ = some (.int .i64 s.r)) := fun Y hY => by
    obtain ⟨g, c, vs, hv⟩ := hd
    have hc := (hv.under hY).pcell
    rw [hN] at hc
    exact ⟨hc.1, hc.2.1, hc.2.2.1, hc.2.2.2.1⟩
  obtain ⟨x0, x1, x2, x3⟩ := HX.out W (Below.refl _ _)
  have k0 : ∀ o, (W.alloc o).cell? ⟨p, 0, none⟩ = some (.int .i64 (N : Int)) := fun o => (HX.out _ ((Below.refl _ _).alloc (Nat.le_refl _) o)).1
  have k1 : ∀ o, (W.alloc o).cell? ⟨p, 1, none⟩ = some (.int .i64 s.zb) := fun o => (HX.out _ ((Below.refl _ _).alloc (Nat.le_refl _) o)).2.1
  have k2 : ∀ o, (W.alloc o).cell? ⟨p, 2, none⟩ = some (.int .i64 s.b) := fun o => (HX.out _ ((Below.refl _ _).alloc (Nat.le_refl _) o)).2.2.1
  have k3 : ∀ o, (W.alloc o).cell? ⟨p, 3, none⟩ = some (.int .i64 s.r) := fun o => (HX.out _ ((Below.refl _ _).alloc (Nat.le_refl _) o)).2.2.2
  have HG : Hid (∀ Y, Below W.heap.size W Y → Calls Tryz.prog 103 #[.agg #[.int .i64 (N : Int), .int .i64 s.zb, .int .i64 s.b, .int .i64 s.r]] Y fun e Z => ∃ pg gg gc, e = .returned (.pointer (some ⟨pg, 0, none⟩)) ∧ (SegR Z pg gg gc s (newZ s.z.toNat) ∧ Y.heap.size ≤ pg ∧ Y.heap.size ≤ gg ∧ Below Y.heap.size Y Z ∧ Below W.heap.size W Z) ∧ Z.cell? ⟨p, 0, none⟩ = some (.int .i64 (N : Int)) ∧ (∀ o, (Z.alloc o).cell? ⟨p, 0, none⟩ = some (.int .i64 (N : Int)))) := fun Y hY => by
    have := dgNew_of s Y (by have := H.out.2.1.right.1; omega)
    rw [show shL s = [.int .i64 (N : Int), .int .i64 s.zb, .int .i64 s.b, .int .i64 s.r] by unfold shL; rw [H.out.2.2]] at this
    refine this.mono ?_
    rintro e Z (⟨hr, _⟩ | ⟨_, pg, gg, gc, rfl, h1, h2, h3, h4⟩)
    · exact (hr H.out.2.1.right).elim
    · have hb := hY.trans (h4.mono hY.size)
      exact ⟨pg, gg, gc, rfl, ⟨h1, h2, h3, h4, hb⟩, (HX.out Z hb).1, fun o => (HX.out _ (hb.alloc hb.size o)).1⟩
  have HM : Hid (∀ Y, Below W.heap.size W Y → Calls Tryz.prog 104 #[] Y fun e Z => e = .returned (.pointer (some ⟨Y.heap.size, 0, none⟩)) ∧ (Blk Z Y.heap.size [.slice none 0 0] 170 ∧ Below Y.heap.size Y Z ∧ Below W.heap.size W Z) ∧ Z.cell? ⟨p, 0, none⟩ = some (.int .i64 (N : Int)) ∧ (∀ o, (Z.alloc o).cell? ⟨p, 0, none⟩ = some (.int .i64 (N : Int)))) := fun Y hY => by
    refine (dmNew0_of Y).mono ?_
    rintro e Z ⟨rfl, h1, h2⟩
    have hb := hY.trans (h2.mono hY.size)
    exact ⟨rfl, ⟨h1, h2, hb⟩, (HX.out Z hb).1, fun o => (HX.out _ (hb.alloc hb.size o)).1⟩
  clear hd hw hN
  go_enter Tryz.func47, Tryz.ntmps47
  go_wp2_with fail
  go_cut [11] (fun v X => ∃ k : Rs, v = .pointer (some ⟨k.ps, 0, none⟩) ∧ SdV (fun x => O x ∧ x < W.heap.size) (fun _ => False) X k (newSt s zs 0 0) ∧ Below W.heap.size W X ∧ ∀ x, k.has x → W.heap.size ≤ x)
  case first =>
    go_region_law (first
      | (go_simp; go_at_call 103; refine (HG.out _ (by first | exact (Below.refl _ _).drew | exact ((Below.refl _ _).alloc (Nat.le_refl _) _).drew)).mono ?_; rintro e V2 ⟨pg, gg, gc, rfl, sg2, y0, y0a⟩)
      | (go_simp; go_at_call 104; refine (HM.out _ (by first | exact sg2.2.2.2.2 | exact sg2.2.2.2.2.alloc sg2.2.2.2.2.size _)).mono ?_; rintro e V3 ⟨rfl, lm3, z0, z0a⟩))
    all_goals (
      have hz : (s.z.toNat : Int) = s.z := by rw [H.out.2.2]; simp
      have hzN : s.z.toNat = N := by rw [H.out.2.2]; simp
      have g1 := sg2.2.1
      have g2 := sg2.2.2.1
      try simp at g1 g2
      first
      | (
        have q3 := lm3.2.1.size
        have q9 := sg2.2.2.2.2.size
        have hpl : V2.heap.size < V3.heap.size := lm3.1.lt
        have hb : Below W.heap.size W ((V3.alloc (.cells (madeCells #[.int .u64 0] N) 40)).alloc (.cells #[.pointer (some ⟨p, 0, none⟩), .pointer (some ⟨pg, 0, none⟩), .pointer (some ⟨V2.heap.size, 0, none⟩), .int .u64 0, .slice (some ⟨V3.heap.size, 0, none⟩) N N, .int .i64 0] 102)) := (lm3.2.2.alloc (by omega) _).alloc (by simp; omega) _
        have PK : Hid (SdV (fun x => O x ∧ x < W.heap.size) (fun _ => False) ((V3.alloc (.cells (madeCells #[.int .u64 0] N) 40)).alloc (.cells #[.pointer (some ⟨p, 0, none⟩), .pointer (some ⟨pg, 0, none⟩), .pointer (some ⟨V2.heap.size, 0, none⟩), .int .u64 0, .slice (some ⟨V3.heap.size, 0, none⟩) N N, .int .i64 0] 102)) ⟨V3.heap.size + 1, p, pg, gg, gc, V2.heap.size, V3.heap.size⟩ (newSt s zs 0 0) ∧ Below W.heap.size W ((V3.alloc (.cells (madeCells #[.int .u64 0] N) 40)).alloc (.cells #[.pointer (some ⟨p, 0, none⟩), .pointer (some ⟨pg, 0, none⟩), .pointer (some ⟨V2.heap.size, 0, none⟩), .int .u64 0, .slice (some ⟨V3.heap.size, 0, none⟩) N N, .int .i64 0] 102)) ∧ ∀ x, Rs.has ⟨V3.heap.size + 1, p, pg, gg, gc, V2.heap.size, V3.heap.size⟩ x → W.heap.size ≤ x) := by
          refine ⟨sdv_made (k := ⟨V3.heap.size + 1, p, pg, gg, gc, V2.heap.size, V3.heap.size⟩) H.out.1 H.out.2.1 hb (by unfold FitsU; omega) rfl hz ?_ ?_ ?_ ?_ (by show W.heap.size ≤ pg; omega) (by show W.heap.size ≤ gg; omega) (by show W.heap.size ≤ V2.heap.size; omega) (by show W.heap.size ≤ V3.heap.size; omega) (by show W.heap.size ≤ V3.heap.size + 1; omega), hb, ?_⟩
          · exact ((sg2.1.under lm3.2.1).under ((Below.refl _ _).alloc (Nat.le_refl _) _)).under ((Below.refl _ _).alloc (Nat.le_refl _) _)
          · exact (lm3.1.alloc _).alloc _
          · rw [hzN]; exact (made_u64 N V3).alloc _
          · rw [hzN]; exact Blk.new' (by simp) rfl
          · rintro x (rfl | rfl | rfl | rfl | rfl) <;> (try simp only) <;> omega
        generalize World.alloc _ (.cells #[.pointer (some ⟨p, 0, none⟩), .pointer (some ⟨pg, 0, none⟩), .pointer (some ⟨V2.heap.size, 0, none⟩), .int .u64 0, .slice (some ⟨V3.heap.size, 0, none⟩) N N, .int .i64 0] 102) = V9 at PK ⊢
        generalize V3.heap.size + 1 = ps at PK ⊢
        go_wp2_with fail
        go_meet
        case rel => exact ⟨_, rfl, PK.out.1, PK.out.2.1, PK.out.2.2⟩)
      | (
        have lmb : Below (V2.heap.size + 1) (V2.alloc (.cells (madeCells #[.int .u64 0] N) 40)) V3 := by have := lm3.2.1; simpa using this
        have e3 : Below V2.heap.size V2 V3 := ((Below.refl _ _).alloc (Nat.le_refl _) _).trans (lmb.mono (by omega))
        have q3 := e3.size
        have q9 := sg2.2.2.2.2.size
        have hm3 : Blk V3 (V2.heap.size + 1) [.slice none 0 0] 170 := by have := lm3.1; simpa using this
        have hpl : V2.heap.size + 1 < V3.heap.size := hm3.lt
        have hb : Below W.heap.size W (V3.alloc (.cells #[.pointer (some ⟨p, 0, none⟩), .pointer (some ⟨pg, 0, none⟩), .pointer (some ⟨V2.heap.size + 1, 0, none⟩), .int .u64 0, .slice (some ⟨V2.heap.size, 0, none⟩) N N, .int .i64 0] 102)) := lm3.2.2.alloc (by omega) _
        have PK : Hid (SdV (fun x => O x ∧ x < W.heap.size) (fun _ => False) (V3.alloc (.cells #[.pointer (some ⟨p, 0, none⟩), .pointer (some ⟨pg, 0, none⟩), .pointer (some ⟨V2.heap.size + 1, 0, none⟩), .int .u64 0, .slice (some ⟨V2.heap.size, 0, none⟩) N N, .int .i64 0] 102)) ⟨V3.heap.size, p, pg, gg, gc, V2.heap.size + 1, V2.heap.size⟩ (newSt s zs 0 0) ∧ Below W.heap.size W (V3.alloc (.cells #[.pointer (some ⟨p, 0, none⟩), .pointer (some ⟨pg, 0, none⟩), .pointer (some ⟨V2.heap.size + 1, 0, none⟩), .int .u64 0, .slice (some ⟨V2.heap.size, 0, none⟩) N N, .int .i64 0] 102)) ∧ ∀ x, Rs.has ⟨V3.heap.size, p, pg, gg, gc, V2.heap.size + 1, V2.heap.size⟩ x → W.heap.size ≤ x) := by
          refine ⟨sdv_made (k := ⟨V3.heap.size, p, pg, gg, gc, V2.heap.size + 1, V2.heap.size⟩) H.out.1 H.out.2.1 hb (by unfold FitsU; omega) rfl hz ?_ ?_ ?_ ?_ (by show W.heap.size ≤ pg; omega) (by show W.heap.size ≤ gg; omega) (by show W.heap.size ≤ V2.heap.size + 1; omega) (by show W.heap.size ≤ V2.heap.size; omega) (by show W.heap.size ≤ V3.heap.size; omega), hb, ?_⟩
          · exact (sg2.1.under e3).under ((Below.refl _ _).alloc (Nat.le_refl _) _)
          · exact hm3.alloc _
          · rw [hzN]; exact ((made_u64 N V2).below lmb (by omega)).alloc _
          · rw [hzN]; exact Blk.new' (by simp) rfl
          · rintro x (rfl | rfl | rfl | rfl | rfl) <;> (try simp only) <;> omega
        generalize World.alloc _ (.cells #[.pointer (some ⟨p, 0, none⟩), .pointer (some ⟨pg, 0, none⟩), .pointer (some ⟨V2.heap.size + 1, 0, none⟩), .int .u64 0, .slice (some ⟨V2.heap.size, 0, none⟩) N N, .int .i64 0] 102) = V9 at PK ⊢
        generalize V3.heap.size = ps at PK ⊢
        go_wp2_with fail
        go_meet
        case rel => exact ⟨_, rfl, PK.out.1, PK.out.2.1, PK.out.2.2⟩)
      | (
        have sgb : Below (W.heap.size + 1) (W.alloc (.cells (madeCells #[.int .u64 0] N) 40)) V2 := by have := (Below.refl _ _).drew.trans sg2.2.2.2.1; simpa using this
        have e3 := lm3.2.1
        have q3 := e3.size
        have q9 := sg2.2.2.2.2.size
        have q4 : W.heap.size + 1 ≤ V2.heap.size := by have := sgb.size; simpa using this
        have l2 : W.heap.size + 1 ≤ pg ∧ W.heap.size + 1 ≤ gg := by have h1 := sg2.2.1; have h2 := sg2.2.2.1; simpa using (And.intro h1 h2)
        have hpl : V2.heap.size < V3.heap.size := lm3.1.lt
        have hb : Below W.heap.size W (V3.alloc (.cells #[.pointer (some ⟨p, 0, none⟩), .pointer (some ⟨pg, 0, none⟩), .pointer (some ⟨V2.heap.size, 0, none⟩), .int .u64 0, .slice (some ⟨W.heap.size, 0, none⟩) N N, .int .i64 0] 102)) := lm3.2.2.alloc (by omega) _
        have PK : Hid (SdV (fun x => O x ∧ x < W.heap.size) (fun _ => False) (V3.alloc (.cells #[.pointer (some ⟨p, 0, none⟩), .pointer (some ⟨pg, 0, none⟩), .pointer (some ⟨V2.heap.size, 0, none⟩), .int .u64 0, .slice (some ⟨W.heap.size, 0, none⟩) N N, .int .i64 0] 102)) ⟨V3.heap.size, p, pg, gg, gc, V2.heap.size, W.heap.size⟩ (newSt s zs 0 0) ∧ Below W.heap.size W (V3.alloc (.cells #[.pointer (some ⟨p, 0, none⟩), .pointer (some ⟨pg, 0, none⟩), .pointer (some ⟨V2.heap.size, 0, none⟩), .int .u64 0, .slice (some ⟨W.heap.size, 0, none⟩) N N, .int .i64 0] 102)) ∧ ∀ x, Rs.has ⟨V3.heap.size, p, pg, gg, gc, V2.heap.size, W.heap.size⟩ x → W.heap.size ≤ x) := by
          refine ⟨sdv_made (k := ⟨V3.heap.size, p, pg, gg, gc, V2.heap.size, W.heap.size⟩) H.out.1 H.out.2.1 hb (by unfold FitsU; omega) rfl hz ?_ ?_ ?_ ?_ (by show W.heap.size ≤ pg; omega) (by show W.heap.size ≤ gg; omega) (by show W.heap.size ≤ V2.heap.size; omega) (by show W.heap.size ≤ W.heap.size; omega) (by show W.heap.size ≤ V3.heap.size; omega), hb, ?_⟩
          · exact (sg2.1.under e3).under ((Below.refl _ _).alloc (Nat.le_refl _) _)
          · exact lm3.1.alloc _
          · rw [hzN]; exact (((made_u64 N W).below sgb (by omega)).below e3 (by omega)).alloc _
          · rw [hzN]; exact Blk.new' (by simp) rfl
          · rintro x (rfl | rfl | rfl | rfl | rfl) <;> (try simp only) <;> omega
        generalize World.alloc _ (.cells #[.pointer (some ⟨p, 0, none⟩), .pointer (some ⟨pg, 0, none⟩), .pointer (some ⟨V2.heap.size, 0, none⟩), .int .u64 0, .slice (some ⟨W.heap.size, 0, none⟩) N N, .int .i64 0] 102) = V9 at PK ⊢
        generalize V3.heap.size = ps at PK ⊢
        go_wp2_with fail
        go_meet
        case rel => exact ⟨_, rfl, PK.out.1, PK.out.2.1, PK.out.2.2⟩))
  case rest =>
    obtain ⟨k, rfl, hk, hb, hh⟩ := hcut
    have HK : Hid (SdV (fun x => O x ∧ x < W.heap.size) (fun _ => False) wc k (newSt s zs 0 0) ∧ Below W.heap.size W wc ∧ ∀ x, k.has x → W.heap.size ≤ x) := ⟨hk, hb, hh⟩
    clear hk hb hh x0 x1 x2 x3 k0 k1 k2 k3 HG HM HX
    obtain ⟨ps, hps⟩ : ∃ ps, ps = k.ps := ⟨_, rfl⟩
    rw [← hps]
    have HPs : Hid (ps = k.ps) := hps
    clear hps
    obtain ⟨W9, hW9⟩ : ∃ W9 : World, W9 = wc := ⟨_, rfl⟩
    rw [← hW9] at HK ⊢
    clear hW9
    go_wp2_with fail
    go_loopw [12] (fun x wr => x = .int .i64 0 ∧ wr = W9) (fun _ _ => 0)
    case atStart => exact ⟨rfl, rfl⟩
    case round =>
      obtain ⟨rfl, rfl⟩ := hrel
      go_wp2
      obtain ⟨V8, rfl⟩ : ∃ V8 : World, V8 = wr := ⟨_, rfl⟩
      go_loopw [13] (fun x wr => x = .int .i64 0 ∧ wr = V8) (fun _ _ => 0)
      case atStart => exact ⟨rfl, rfl⟩
      case round =>
        obtain ⟨rfl, rfl⟩ := hrel
        go_wp2
        go_ret
        exact ⟨HK.out.2.1, k, by rw [← HPs.out]; rfl, HK.out.1, HK.out.2.2⟩
end Go.Proofs.YtfcbcpjcmihooaaGreat

/- What one call of New of the document's store does; both stores beside each other; what holds of them from the beginning on. -/
namespace Go.Proofs.YtfcbcpjcmihooaaGreat
open Go.RowKit
set_option linter.unusedVariables false
set_option maxRecDepth 4000
set_option maxHeartbeats 2000000 in
theorem dsnew_of (s : Sh) (W : World) (hz : -9223372036854775808 ≤ s.z) : Calls Tryz.prog 12 #[.agg (shL s).toArray] W fun e w' => Below W.heap.size W w' ∧ ((¬ RightS s ∧ e = .returned (.pointer none)) ∨ (RightS s ∧ ∃ D M k, e = .returned (.pointer (some ⟨k.ps, 0, none⟩)) ∧ SdV D M w' k (st0 s) ∧ ∀ x, SdO D M k x → W.heap.size ≤ x)) := by
  obtain ⟨q, hq⟩ : ∃ q, q = W.heap.size := ⟨_, rfl⟩
  have b0 : Below W.heap.size W (W.alloc (.cells (shL s).toArray 23)) := (Below.refl _ _).alloc (Nat.le_refl _) _
  have hN := rNew_of s (W.alloc (.cells (shL s).toArray 23)) hz
  have c0 : (W.alloc (.cells (shL s).toArray 23)).cell? ⟨W.heap.size, 0, none⟩ = some (.int .i64 s.z) := (Blk.new' (L := shL s) rfl rfl).cell 0
  have c1 : (W.alloc (.cells (shL s).toArray 23)).cell? ⟨W.heap.size, 1, none⟩ = some (.int .i64 s.zb) := (Blk.new' (L := shL s) rfl rfl).cell 1
  have c2 : (W.alloc (.cells (shL s).toArray 23)).cell? ⟨W.heap.size, 2, none⟩ = some (.int .i64 s.b) := (Blk.new' (L := shL s) rfl rfl).cell 2
  have c3 : (W.alloc (.cells (shL s).toArray 23)).cell? ⟨W.heap.size, 3, none⟩ = some (.int .i64 s.r) := (Blk.new' (L := shL s) rfl rfl).cell 3
  have HB : Hid (Below W.heap.size W (W.alloc (.cells (shL s).toArray 23))) := b0
  unfold shL at hN c0 c1 c2 c3 HB ⊢
  by_cases hr : RightS s
  · have HN : Hid (Calls Tryz.prog 45 #[.agg #[.int .i64 s.z, .int .i64 s.zb, .int .i64 s.b, .int .i64 s.r]] (W.alloc (.cells #[.int .i64 s.z, .int .i64 s.zb, .int .i64 s.b, .int .i64 s.r] 23)) fun e w1 => ∃ p, e = .returned (.pointer (some ⟨p, 0, none⟩)) ∧ Calls Tryz.prog 46 #[.pointer (some ⟨p, 0, none⟩), .int .i64 0, .agg #[.int .u64 0, .slice none 0 0]] w1 fun e w2 => (∃ v, e = .returned v) ∧ Calls Tryz.prog 47 #[.pointer (some ⟨p, 0, none⟩), .int .u64 0, .slice none 0 0, .slice none 0 0, .int .i64 0] w2 fun e w' => ∃ D M k, e = .returned (.pointer (some ⟨k.ps, 0, none⟩)) ∧ Below W.heap.size W w' ∧ SdV D M w' k (st0 s) ∧ ∀ x, SdO D M k x → W.heap.size ≤ x) := by
      refine hN.mono ?_
      rintro e w1 ⟨hb, ⟨hn, _⟩ | ⟨_, p, rfl, hd⟩⟩
      · exact (hn hr).elim
      · refine ⟨p, rfl, (dkSave_of 0 0 none 0 0 [] hd (empty_wf hr) (by unfold FitsU; omega) (kin_none _) (by omega)).mono ?_⟩
        rintro e w2 ⟨rfl, O2, hd2, hO2, ho2⟩
        refine ⟨⟨_, rfl⟩, (don_nil hd2 (swf_svZ (empty_wf hr) 0 0 [])).mono ?_⟩
        have hb' : Below W.heap.size W w1 := HB.out.trans (hb.mono HB.out.size)
        have hW2 : W.heap.size ≤ w2.heap.size := Nat.le_trans hb'.size ho2.size
        have hge : ∀ x, O2 x → W.heap.size ≤ x := fun x hx => by
          rcases hO2 x hx with h | h
          · have : (W.alloc (.cells #[.int .i64 s.z, .int .i64 s.zb, .int .i64 s.b, .int .i64 s.r] 23)).heap.size = W.heap.size + 1 := by simp
            rw [this] at h; omega
          · have := hb'.size; omega
        have hb2 : Below W.heap.size W w2 := hb'.trans (ho2.below hb'.size (fun j hj => by
          have : (W.alloc (.cells #[.int .i64 s.z, .int .i64 s.zb, .int .i64 s.b, .int .i64 s.r] 23)).heap.size = W.heap.size + 1 := by simp
          rw [this] at hj; omega))
        rintro e w' ⟨hb3, k, rfl, hv, hk⟩
        refine ⟨_, _, k, rfl, hb2.trans (hb3.mono hW2), hv, fun x hx => ?_⟩
        rcases hx with hx | hx | hx
        · exact hge x hx.1
        · exact hx.elim
        · have := hk x hx; omega
    clear hN b0
    go_enter Tryz.func12, Tryz.ntmps12
    go_wp2_with (first
      | (go_at_call 45; refine HN.out.mono ?_; rintro e w1 ⟨p, rfl, h1⟩)
      | (go_at_call 46; refine h1.mono ?_; rintro e w2 ⟨⟨v2, rfl⟩, h2⟩)
      | (go_at_call 47; refine h2.mono ?_; rintro e w3 ⟨D3, M3, k3, rfl, h3⟩))
    go_ret
    exact ⟨h3.1, .inr ⟨hr, D3, M3, k3, rfl, h3.2⟩⟩
  · have HN : Hid (Calls Tryz.prog 45 #[.agg #[.int .i64 s.z, .int .i64 s.zb, .int .i64 s.b, .int .i64 s.r]] (W.alloc (.cells #[.int .i64 s.z, .int .i64 s.zb, .int .i64 s.b, .int .i64 s.r] 23)) fun e w1 => e = .returned (.pointer none) ∧ Below W.heap.size W w1) := by
      refine hN.mono ?_
      rintro e w1 ⟨hb, ⟨_, rfl⟩ | ⟨hh, _⟩⟩
      · exact ⟨rfl, HB.out.trans (hb.mono HB.out.size)⟩
      · exact (hr hh).elim
    clear hN b0
    go_enter Tryz.func12, Tryz.ntmps12
    go_wp2_with (go_at_call 45; refine HN.out.mono ?_; rintro e w1 ⟨rfl, hb1⟩)
    go_ret
    exact ⟨hb1, .inl ⟨hr, rfl⟩⟩

/-- What holds of a store that was made new: each place is one of a block that is there, in a zone of the log; the first two zones are kept. -/
structure Inv2 (st : St) : Prop where
  inv : Inv st
  hi : ∀ x ∈ st.S, 2 ≤ x.2.1
  k0 : st.L.getD 0 0 = 4
  k1 : st.L.getD 1 0 = 4
  o : st.o = 0 ∨ st.o = 1
/-- Both stores, alike, none of their blocks below B or one of the other's. -/
def Bo (B : Nat) (W : World) (ps rs : Nat) (st : St) (m : Nat) (w : World) : Prop :=
  ∃ D k D' M' k', k.ps = ps ∧ k'.ps = rs ∧ StV D w k st m ∧ SdV D' M' w k' st ∧ (∀ x, StO D k x → B ≤ x) ∧ (∀ x, SdO D' M' k' x → B ≤ x) ∧ (∀ x, StO D k x → ¬ SdO D' M' k' x) ∧ Below B W w ∧ st.S.length ≤ m
section
variable {B : Nat} {W w w' : World} {ps rs : Nat} {st st' : St} {m m' : Nat}
theorem StV.all {D : Nat → Prop} {k : Bs} {c : Nat} (h : StV D w k st c) : ∀ x, StO D k x → x < w.heap.size := by
  rintro x (hx | hx)
  · exact h.lt x hx
  · exact h.kin x hx
theorem Bo.under (h : Bo B W ps rs st m w) (hb : Below w.heap.size w w') : Bo B W ps rs st m w' := by
  obtain ⟨D, k, D', M', k', h1, h2, h3, h4, h5, h6, h7, h8, h9⟩ := h
  exact ⟨D, k, D', M', k', h1, h2, h3.under hb, h4.under hb, h5, h6, h7, h8.trans (hb.mono (by have e := h5 k.ps (.inr (.inl rfl)); have e2 := h3.hp.lt; omega)), h9⟩
theorem Bo.size (h : Bo B W ps rs st m w) : B ≤ w.heap.size ∧ W.heap.size ≤ w.heap.size := by
  obtain ⟨D, k, D', M', k', h1, h2, h3, h4, h5, h6, h7, h8, h9⟩ := h
  have e := h5 k.ps (.inr (.inl rfl))
  have e2 := h3.hp.lt
  exact ⟨by omega, h8.size⟩
/-- The program's store does something, then the document's the like. -/
theorem Bo.step {D D' M' : Nat → Prop} {k : Bs} {k' : Rs} {w1 w2 : World} (h1 : k.ps = ps) (h2 : k'.ps = rs) (h3 : StV D w k st m) (h4 : SdV D' M' w k' st) (h5 : ∀ x, StO D k x → B ≤ x) (h6 : ∀ x, SdO D' M' k' x → B ≤ x) (h7 : ∀ x, StO D k x → ¬ SdO D' M' k' x) (h8 : Below B W w)
    (sv : Sv D w k st' m' w1) : SdV D' M' w1 k' st ∧ (Sd (SdO D' M' k') w1 k' st' w2 → st'.S.length ≤ m' → Bo B W ps rs st' m' w2) := by
  obtain ⟨D1, hv1, hD1, ho1⟩ := sv
  have hs1 := ho1.size
  have hd : SdV D' M' w1 k' st := h4.out ho1 (fun x hx hs => h7 x hs hx)
  have hsB : B ≤ w.heap.size := by have e := h5 k.ps (.inr (.inl rfl)); have e2 := h3.hp.lt; omega
  have hb1 : Below B W w1 := h8.trans (ho1.below hsB (fun j hj => h5 j hj))
  refine ⟨hd, fun sd hl => ?_⟩
  obtain ⟨D2, M2, hv2, hR2, ho2⟩ := sd
  have hs2 := ho2.size
  have old : ∀ x, StO D1 k x → StO D k x ∨ w.heap.size ≤ x := fun x hx => by
    rcases hx with hx | hx
    · rcases hD1 x hx with h | h
      · exact .inl (.inl h)
      · exact .inr h
    · exact .inl (.inr hx)
  have apart : ∀ x, StO D1 k x → ¬ SdO D' M' k' x := fun x hx hs => by
    rcases old x hx with h | h
    · exact h7 x h hs
    · have := h4.all x hs; omega
  refine ⟨D1, k, D2, M2, k', h1, h2, hv1.out ho2 (fun x hx hs => apart x hx hs), hv2, fun x hx => ?_, fun x hx => ?_, fun x hx hs => ?_, hb1.trans (ho2.below (by omega) (fun j hj => h6 j hj)), hl⟩
  · rcases old x hx with h | h
    · exact h5 x h
    · omega
  · rcases hR2 x hx with h | h
    · exact h6 x h
    · omega
  · rcases hR2 x hs with h | h
    · exact apart x hx h
    · have := hv1.all x hx; omega
end
end Go.Proofs.YtfcbcpjcmihooaaGreat

/- One call on both stores: they answer alike, and are alike then. -/
namespace Go.Proofs.YtfcbcpjcmihooaaGreat
open Go.RowKit
set_option linter.unusedVariables false
set_option maxRecDepth 4000
section
variable {B : Nat} {W w w' : World} {ps rs : Nat} {st : St} {m : Nat}
theorem flush_bo (h : Bo B W ps rs st m w) : Calls Tryz.prog 78 #[.pointer (some ⟨ps, 0, none⟩)] w fun e w1 => (∃ v, e = .returned v) ∧ Calls Tryz.prog 82 #[.pointer (some ⟨rs, 0, none⟩)] w1 fun e w2 => (∃ v, e = .returned v) ∧ Bo B W ps rs (flushM st) m w2 := by
  obtain ⟨D, k, D', M', k', h1, h2, h3, h4, h5, h6, h7, h8, h9⟩ := h
  have e := sflush_of h3
  rw [h1] at e
  refine e.mono ?_
  rintro e w1 ⟨hv, sv⟩
  have hs := fun w2 => Bo.step (w2 := w2) h1 h2 h3 h4 h5 h6 h7 h8 sv
  refine ⟨hv, ?_⟩
  have e := dsflush_of (hs w1).1
  rw [h2] at e
  refine e.mono ?_
  rintro e w2 ⟨hv2, sd⟩
  exact ⟨hv2, (hs w2).2 sd h9⟩
theorem mark_bo (h : Bo B W ps rs st m w) (hm : m ≤ 10000) (ho : st.o = 0 ∨ st.o = 1) : Calls Tryz.prog 79 #[.pointer (some ⟨ps, 0, none⟩)] w fun e w1 => e = .returned (.int .u16 (markM st).1) ∧ Calls Tryz.prog 83 #[.pointer (some ⟨rs, 0, none⟩)] w1 fun e w2 => e = .returned (.int .i64 (markM st).1) ∧ Bo B W ps rs (markM st).2 m w2 := by
  obtain ⟨D, k, D', M', k', h1, h2, h3, h4, h5, h6, h7, h8, h9⟩ := h
  have e := smark_of h3 (by omega) (by omega) ho
  rw [h1] at e
  refine e.mono ?_
  rintro e w1 ⟨rfl, sv⟩
  have hs := fun w2 => Bo.step (w2 := w2) h1 h2 h3 h4 h5 h6 h7 h8 sv
  refine ⟨rfl, ?_⟩
  have e := dsmark_of (hs w1).1 (by omega) ho
  rw [h2] at e
  refine e.mono ?_
  rintro e w2 ⟨rfl, sd⟩
  exact ⟨rfl, (hs w2).2 sd h9⟩
theorem clearM_S (st : St) (z : Int) : (clearM st z).S = st.S := by unfold clearM; split <;> rfl
theorem clear_bo (z : Int) (h : Bo B W ps rs st m w) (hm : m ≤ 10000) : Calls Tryz.prog 80 #[.pointer (some ⟨ps, 0, none⟩), .int .i64 z] w fun e w1 => e = .returned (.bool (decide (clearOk st z))) ∧ Calls Tryz.prog 84 #[.pointer (some ⟨rs, 0, none⟩), .int .i64 z] w1 fun e w2 => e = .returned (.bool (decide (clearOk st z))) ∧ Bo B W ps rs (clearM st z) m w2 := by
  obtain ⟨D, k, D', M', k', h1, h2, h3, h4, h5, h6, h7, h8, h9⟩ := h
  have e := sclear_of z h3 (by omega)
  rw [h1] at e
  refine e.mono ?_
  rintro e w1 ⟨rfl, sv⟩
  have hs := fun w2 => Bo.step (w2 := w2) h1 h2 h3 h4 h5 h6 h7 h8 sv
  refine ⟨rfl, ?_⟩
  have e := dsclear_of z (hs w1).1 (by omega)
  rw [h2] at e
  refine e.mono ?_
  rintro e w2 ⟨rfl, sd⟩
  exact ⟨rfl, (hs w2).2 sd (by rw [clearM_S]; exact h9)⟩
/-- What is put: a list in blocks that no store has. -/
theorem put_bo (h : Bo B W ps rs st m w) (a : Option Addr) (n cc : Nat) (l : List Pt) (X : Nat → Prop) (hl : PtsIn X w a n l) (hcc : n ≤ cc) (hX : ∀ D k D' M' k', StV D w k st m → SdV D' M' w k' st → (∀ x, StO D k x → B ≤ x) → (∀ x, SdO D' M' k' x → B ≤ x) → ∀ x, X x → ¬ StO D k x ∧ ¬ SdO D' M' k' x ∧ x < w.heap.size) (hm : m + n ≤ 10000) : Calls Tryz.prog 20 #[.pointer (some ⟨ps, 0, none⟩), .slice a n cc] w fun e w1 => e = .returned (.int .u16 (putM st l).1) ∧ Calls Tryz.prog 81 #[.pointer (some ⟨rs, 0, none⟩), .slice a n cc] w1 fun e w2 => e = .returned (.int .i64 (putM st l).1) ∧ Bo B W ps rs (putM st l).2 (m + n) w2 := by
  obtain ⟨D, k, D', M', k', h1, h2, h3, h4, h5, h6, h7, h8, h9⟩ := h
  have hx := hX D k D' M' k' h3 h4 h5 h6
  have e := sput_of h3 a n cc l X hl hcc (fun x h => ⟨(hx x h).1, (hx x h).2.2⟩) (by omega)
  rw [h1] at e
  refine e.mono ?_
  rintro e w1 ⟨rfl, sv⟩
  have hs := fun w2 => Bo.step (w2 := w2) h1 h2 h3 h4 h5 h6 h7 h8 sv
  refine ⟨rfl, ?_⟩
  obtain ⟨D1, hv1, hD1, ho1⟩ := sv
  have e := dsput_of (hs w1).1 a n cc l X (hl.out ho1 (fun x h => (hx x h).1)) hcc (fun x h => ⟨(hx x h).2.1, by have := (hx x h).2.2; have := ho1.size; omega⟩) (by omega)
  rw [h2] at e
  refine e.mono ?_
  rintro e w2 ⟨rfl, sd, hlen⟩
  exact ⟨rfl, (hs w2).2 sd (by omega)⟩
end
end Go.Proofs.YtfcbcpjcmihooaaGreat
