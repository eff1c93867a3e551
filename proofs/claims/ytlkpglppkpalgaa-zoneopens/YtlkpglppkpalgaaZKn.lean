/- What one call of known does: the chapter's example. -/
import Derived.Test.YtlkpglppkpalgaaZWf
import Derived.Test.YtlkpglppkpalgaaZBlock
import Derived.Test.YtlkpglppkpalgaaZNew
namespace Go.Proofs.Ytlkpglppkpalgaa
open Go.RowKit Go.Shelf
set_option linter.unusedVariables false

def s0 : Sh := ⟨6, 8, 64, 2⟩
def bk0 (i : Int) : List Int := blockB 64 [i, i, i, i]
def ls0 : List (Int × Int) := [(0, 0), (0, 0), (0, 0), (0, 3)]
def zk : Nat → List Zn
  | 0 => []
  | 1 => emptyZ 6
  | 2 => flushZ (appZ s0 (emptyZ 6) 3 (bk0 1))
  | 3 => appZ s0 (flushZ (appZ s0 (emptyZ 6) 3 (bk0 1))) 3 (bk0 2)
  | _ => appZ s0 (appZ s0 (flushZ (appZ s0 (emptyZ 6) 3 (bk0 1))) 3 (bk0 2)) 3 (bk0 3)
theorem s0_right : RightS s0 := by decide
theorem zk_wf : ∀ i, 1 ≤ i → Wf s0 (zk i)
  | 0, h => by omega
  | 1, _ => empty_wf s0_right
  | 2, _ => ((empty_wf s0_right).app 3 _).flush
  | 3, _ => (((empty_wf s0_right).app 3 _).flush).app 3 _
  | i + 4, _ => ((((empty_wf s0_right).app 3 _).flush).app 3 _).app 3 _
theorem k_e1 : appE s0 (zk 1) 3 (bk0 1) = 0 := by kernel_rfl
theorem k_e2 : appE s0 (zk 2) 3 (bk0 2) = 0 := by kernel_rfl
theorem k_e3 : appE s0 (zk 3) 3 (bk0 3) = 0 := by kernel_rfl
theorem k_at : ((atZ (crashZ ls0 (zk 4)) 3).1.length = 2) ∧ (atZ (crashZ ls0 (zk 4)) 3).2 = 2 := by exact ⟨by kernel_rfl, by kernel_rfl⟩
theorem k_rd : rdE (crashZ ls0 (zk 4)) 3 1 = 0 := by kernel_rfl
theorem k_b2 : (rdB (crashZ ls0 (zk 4)) 3 1)[2]? = some 2 := by kernel_rfl
theorem k_b3 : (rdB (crashZ ls0 (zk 4)) 3 1)[3]? = some 0 := by kernel_rfl
theorem k_bl : (rdB (crashZ ls0 (zk 4)) 3 1).length = 64 := by kernel_rfl
def KnSt (W : World) (p i : Nat) (wr : World) : Prop := ∃ O, Dv 69 O wr p s0 (zk i) ∧ (∀ x, O x → W.heap.size ≤ x) ∧ Below W.heap.size W wr
theorem KnSt.under {W wr wr' : World} {p i : Nat} (h : KnSt W p i wr) (hb : Below wr.heap.size wr wr') : KnSt W p i wr' := by
  obtain ⟨O, ⟨g, c, vs, hv⟩, hO, hbl⟩ := h
  exact ⟨O, ⟨g, c, vs, hv.under hb⟩, hO, hbl.trans (hb.mono hbl.size)⟩
theorem block64_of (a : Option Addr) (n c : Nat) (F : List Int) (W : World) (hb : BIn W a n F) (hn : n ≤ 1000000) :
    Calls Try.prog 28 #[.int .i64 64, .slice a n c] W fun e w' => ∃ q, e = .returned (.slice (some ⟨q, 0, none⟩) 64 64) ∧ BkAt (fun x => W.heap.size ≤ x) w' (.slice (some ⟨q, 0, none⟩) 64 64) (blockB 64 F) ∧ Below W.heap.size W w' ∧ W.heap.size ≤ q := block_of 64 a n c F W hb (by decide) hn
theorem kn_app {W V V' : World} {p : Nat} {zs zs' : List Zn} {O : Nat → Prop} {o : Obj} (hd : Dv 69 O V p s0 zs) (hO : ∀ x, O x → W.heap.size ≤ x) (hb : Below W.heap.size W V) (hd' : Dv 69 (Ext O V V') V' p s0 zs') (ho : Out O V V') :
    Dv 69 (Ext O V V') (V'.alloc o) p s0 zs' ∧ (∀ x, Ext O V V' x → W.heap.size ≤ x) ∧ Below W.heap.size W (V'.alloc o) := by
  obtain ⟨g, c, vs, hv⟩ := hd'
  have hs := hb.size
  have hs2 := ho.size
  refine ⟨⟨g, c, vs, hv.under ((Below.refl _ _).alloc (Nat.le_refl _) _)⟩, fun x hx => ?_, (hb.trans (ho.below hs hO)).alloc (by omega) _⟩
  rcases hx with hx | hx
  · exact hO x hx
  · omega

def KnF (W : World) (p : Nat) (w' : World) : Prop := ∃ O, Dv 69 O w' p s0 (crashZ ls0 (zk 4)) ∧ Below W.heap.size W w'
theorem dv_under {T : TypeId} {O : Nat → Prop} {W W' : World} {p : Nat} {s : Sh} {zs : List Zn} (h : Dv T O W p s zs) (hb : Below W.heap.size W W') : Dv T O W' p s zs := by
  obtain ⟨g, c, vs, hv⟩ := h; exact ⟨g, c, vs, hv.under hb⟩
theorem kn_bytes {w : World} {a : Option Addr} (h : BIn w a 64 (rdB (crashZ ls0 (zk 4)) 3 1)) : ∃ b off, a = some ⟨b, off, none⟩ ∧ w.cell? ⟨b, off + 2, none⟩ = some (.int .u8 2) ∧ w.cell? ⟨b, off + 3, none⟩ = some (.int .u8 0) := by
  obtain ⟨b, off, ha, hc⟩ := h.2.2.2.resolve_left (by decide)
  have h2 := hc 2 (by decide)
  have h3 := hc 3 (by decide)
  rw [List.getD, k_b2] at h2
  rw [List.getD, k_b3] at h3
  exact ⟨b, off, ha, h2, h3⟩

set_option maxHeartbeats 4000000 in
set_option maxRecDepth 10000 in
theorem known_any (W : World) : Calls Try.prog 11 #[] W fun e w' => e = .returned (.bool true) ∧ Below W.heap.size W w' := by
  obtain ⟨q, hq⟩ : ∃ q, q = W.heap.size := ⟨_, rfl⟩
  have hb : Blk (W.alloc (.cells #[.int .i64 6, .int .i64 8, .int .i64 64, .int .i64 2] 23)) q [.int .i64 6, .int .i64 8, .int .i64 64, .int .i64 2] 23 := Blk.new' hq.symm rfl
  have hbel : Below W.heap.size W (W.alloc (.cells #[.int .i64 6, .int .i64 8, .int .i64 64, .int .i64 2] 23)) := (Below.refl _ _).alloc (Nat.le_refl _) _
  go_enter Try.func11, Try.ntmps11
  go_upto_region 2 with fail
  rw [← hq]
  generalize hW1 : World.alloc _ _ = W1 at *
  have e0 : W1.cell? ⟨q, 0, none⟩ = some (.int .i64 6) := hb.cell 0
  have e1 : W1.cell? ⟨q, 1, none⟩ = some (.int .i64 8) := hb.cell 1
  have e2 : W1.cell? ⟨q, 2, none⟩ = some (.int .i64 64) := hb.cell 2
  have e3 : W1.cell? ⟨q, 3, none⟩ = some (.int .i64 2) := hb.cell 3
  have HB : Hid (Below W.heap.size W W1) := hbel
  have HN : Hid (Calls Try.prog 12 #[.agg #[.int .i64 6, .int .i64 8, .int .i64 64, .int .i64 2]] W1 (Newed 69 W1 s0)) := new_of s0 W1 (by decide)
  clear hW1 hb hbel hq
  go_upto_region 3 with (go_at_call 12; refine HN.out.mono ?_; rintro e w2 ⟨b2, (⟨hno, _⟩ | ⟨_, p, rfl, hd2⟩)⟩; (exact (hno s0_right).elim))
  have HK : Hid (KnSt W p 1 w2) := ⟨_, hd2, fun x hx => by have := HB.out.size; omega, HB.out.trans (b2.mono HB.out.size)⟩
  clear hd2 b2 e0 e1 e2 e3
  go_wp2
  go_loopw [3] (fun x wr => ∃ i : Nat, x = .int .u8 i ∧ 1 ≤ i ∧ i ≤ 4 ∧ KnSt W p i wr) (fun x wr => 4 - (intOf x).toNat)
  case atStart => exact ⟨1, rfl, by omega, by omega, HK.out⟩
  case round =>
    obtain ⟨i, rfl, h1, h4, O, hd, hO, hb⟩ := hrel
    have h14 : i = 1 ∨ i = 2 ∨ i = 3 ∨ i = 4 := by omega
    rcases h14 with rfl | rfl | rfl | rfl
    · have HH : Hid (KnSt W p 1 wr) := ⟨O, hd, hO, hb⟩
      clear hd hO hb
      go_wp2_with (first
        | (go_at_call 28; refine (block64_of (some ⟨wr.heap.size, 0, none⟩) 4 4 [1, 1, 1, 1] _ (new_bin rfl rfl rfl (by intro z hz; simp at hz; subst hz; unfold Fits8; omega) (by decide)) (by decide)).mono ?_; rintro e w3 ⟨qb, rfl, bk3, bl3, gq3⟩; obtain ⟨O3, hd3, hO3, hb3⟩ := HH.out.under (((Below.refl _ _).alloc (Nat.le_refl _) _).trans (bl3.mono (by simp))))
        | (go_at_call 29; refine (append_of 3 _ 64 64 (bk0 1) hd3 (zk_wf 1 (by decide)) bk3.bin.1 (fun h => by cases h) (by decide)).mono ?_; rintro e w4 ⟨rfl, hd4, ho4⟩; rw [k_e1]; obtain ⟨hd5, hO5, hb5⟩ := kn_app hd3 hO3 hb3 hd4 ho4)
        | (go_at_call 32; refine (flush_of hd5).mono ?_; rintro e w6 ⟨⟨v6, rfl⟩, hd6, ho6⟩))
      have hf : KnSt W p 2 w6 := by
        refine ⟨_, hd6, fun x hx => ?_, ?_⟩
        · rcases hx with hx | hx
          · exact hO5 x hx
          · have := hb5.size; omega
        · exact hb5.trans (ho6.below hb5.size (fun x hx => hO5 x hx))
      have HF : Hid (KnSt W p 2 w6) := hf
      clear hf hd3 hO3 hb3 hd4 ho4 hd5 hO5 hb5 bk3 bl3 gq3 HH
      exact ⟨⟨2, rfl, by omega, by omega, HF.out⟩, by simp [intOf]⟩
    · have HH : Hid (KnSt W p 2 wr) := ⟨O, hd, hO, hb⟩
      clear hd hO hb
      go_wp2_with (first
        | (go_at_call 28; refine (block64_of (some ⟨wr.heap.size, 0, none⟩) 4 4 [2, 2, 2, 2] _ (new_bin rfl rfl rfl (by intro z hz; simp at hz; subst hz; unfold Fits8; omega) (by decide)) (by decide)).mono ?_; rintro e w3 ⟨qb, rfl, bk3, bl3, gq3⟩; obtain ⟨O3, hd3, hO3, hb3⟩ := HH.out.under (((Below.refl _ _).alloc (Nat.le_refl _) _).trans (bl3.mono (by simp))))
        | (go_at_call 29; refine (append_of 3 _ 64 64 (bk0 2) hd3 (zk_wf 2 (by decide)) bk3.bin.1 (fun h => by cases h) (by decide)).mono ?_; rintro e w4 ⟨rfl, hd4, ho4⟩; rw [k_e2]; obtain ⟨hd5, hO5, hb5⟩ := kn_app hd3 hO3 hb3 hd4 ho4))
      have hf : KnSt W p 3 (w4.alloc (.cells #[.int .i64 (appA s0 (zk 2) 3 (bk0 2)).1, .int .i64 (appA s0 (zk 2) 3 (bk0 2)).2] 59)) := ⟨_, hd5, hO5, hb5⟩
      have HF : Hid (KnSt W p 3 (w4.alloc (.cells #[.int .i64 (appA s0 (zk 2) 3 (bk0 2)).1, .int .i64 (appA s0 (zk 2) 3 (bk0 2)).2] 59))) := hf
      clear hf hd3 hO3 hb3 hd4 ho4 hd5 hO5 hb5 bk3 bl3 gq3 HH
      exact ⟨⟨3, rfl, by omega, by omega, HF.out⟩, by simp [intOf]⟩
    · have HH : Hid (KnSt W p 3 wr) := ⟨O, hd, hO, hb⟩
      clear hd hO hb
      go_wp2_with (first
        | (go_at_call 28; refine (block64_of (some ⟨wr.heap.size, 0, none⟩) 4 4 [3, 3, 3, 3] _ (new_bin rfl rfl rfl (by intro z hz; simp at hz; subst hz; unfold Fits8; omega) (by decide)) (by decide)).mono ?_; rintro e w3 ⟨qb, rfl, bk3, bl3, gq3⟩; obtain ⟨O3, hd3, hO3, hb3⟩ := HH.out.under (((Below.refl _ _).alloc (Nat.le_refl _) _).trans (bl3.mono (by simp))))
        | (go_at_call 29; refine (append_of 3 _ 64 64 (bk0 3) hd3 (zk_wf 3 (by decide)) bk3.bin.1 (fun h => by cases h) (by decide)).mono ?_; rintro e w4 ⟨rfl, hd4, ho4⟩; rw [k_e3]; obtain ⟨hd5, hO5, hb5⟩ := kn_app hd3 hO3 hb3 hd4 ho4))
      have hf : KnSt W p 4 (w4.alloc (.cells #[.int .i64 (appA s0 (zk 3) 3 (bk0 3)).1, .int .i64 (appA s0 (zk 3) 3 (bk0 3)).2] 59)) := ⟨_, hd5, hO5, hb5⟩
      have HF : Hid (KnSt W p 4 (w4.alloc (.cells #[.int .i64 (appA s0 (zk 3) 3 (bk0 3)).1, .int .i64 (appA s0 (zk 3) 3 (bk0 3)).2] 59))) := hf
      clear hf hd3 hO3 hb3 hd4 ho4 hd5 hO5 hb5 bk3 bl3 gq3 HH
      exact ⟨⟨4, rfl, by omega, by omega, HF.out⟩, by simp [intOf]⟩
    · have hlt : ∃ O, Dv 69 O wr p s0 (zk 4) ∧ (∀ x, O x → W.heap.size ≤ x) ∧ Below W.heap.size W wr ∧ (∀ x, O x → x < wr.heap.size) := by
        obtain ⟨g, c, vs, hv⟩ := hd
        exact ⟨fun x => O x ∧ x < wr.heap.size, ⟨g, c, vs, hv.mono (fun x h1 h2 => ⟨h1, h2⟩)⟩, fun x h => hO x h.1, hb, fun x h => h.2⟩
      clear hd hO hb
      obtain ⟨O7, hd, hO, hb, hlt7⟩ := hlt
      have hls : LsIn (wr.alloc (.cells #[.int .i64 0, .int .i64 0, .int .i64 0, .int .i64 0, .int .i64 0, .int .i64 0, .int .i64 0, .int .i64 3] 67)) (some ⟨wr.heap.size, 0, none⟩) 4 ls0 := by
        have hbk : Blk (wr.alloc (.cells #[.int .i64 0, .int .i64 0, .int .i64 0, .int .i64 0, .int .i64 0, .int .i64 0, .int .i64 0, .int .i64 3] 67)) wr.heap.size [.int .i64 0, .int .i64 0, .int .i64 0, .int .i64 0, .int .i64 0, .int .i64 0, .int .i64 0, .int .i64 3] 67 := Blk.new' rfl rfl
        refine ⟨rfl, by decide, by decide, .inr ⟨_, 0, rfl, fun i k hi => ?_⟩⟩
        rw [hbk.cell, hbk.cell]
        match i, hi with
        | 0, hi => cases hi; exact ⟨rfl, rfl⟩
        | 1, hi => cases hi; exact ⟨rfl, rfl⟩
        | 2, hi => cases hi; exact ⟨rfl, rfl⟩
        | 3, hi => cases hi; exact ⟨rfl, rfl⟩
        | i + 4, hi => cases hi
      have hdV : Dv 69 O7 (wr.alloc (.cells #[.int .i64 0, .int .i64 0, .int .i64 0, .int .i64 0, .int .i64 0, .int .i64 0, .int .i64 0, .int .i64 3] 67)) p s0 (zk 4) := by
        obtain ⟨g, c, vs, hv⟩ := hd; exact ⟨g, c, vs, hv.under ((Below.refl _ _).alloc (Nat.le_refl _) _)⟩
      have hbV : Below W.heap.size W (wr.alloc (.cells #[.int .i64 0, .int .i64 0, .int .i64 0, .int .i64 0, .int .i64 0, .int .i64 0, .int .i64 0, .int .i64 3] 67)) := hb.alloc hb.size _
      have HCr : Hid (Calls Try.prog 26 #[.pointer (some ⟨p, 0, none⟩), .slice (some ⟨wr.heap.size, 0, none⟩) 4 4] (wr.alloc (.cells #[.int .i64 0, .int .i64 0, .int .i64 0, .int .i64 0, .int .i64 0, .int .i64 0, .int .i64 0, .int .i64 3] 67)) fun e w' => (∃ v, e = .returned v) ∧ KnF W p w') := by
        refine (crash_of _ _ _ ls0 hdV (zk_wf 4 (by decide)) hls (fun _ ad e => by cases e; intro h; exact Nat.lt_irrefl _ (hlt7 _ h))).mono ?_
        rintro e w' ⟨hv, hd', ho'⟩
        refine ⟨hv, _, hd', hbV.trans (ho'.below hbV.size (fun x hx => hO x hx))⟩
      clear hd hO hb hlt7 hls hdV hbV
      go_upto_region 16 with (first
        | (go_at_call 26; refine HCr.out.mono ?_; rintro e w7 ⟨⟨v7, rfl⟩, O8, hd8, hb8⟩)
        | (go_at_call 15; refine (at_of 3 hd8).mono ?_; rintro e w8 ⟨rfl, b8⟩; rw [k_at.1, k_at.2]; have hd9 := dv_under hd8 b8; have hb9 := hb8.trans (b8.mono hb8.size))
        | (go_at_call 30; refine (read_of 3 1 hd9 ((zk_wf 4 (by decide)).crash ls0)).mono ?_; rintro e w9 ⟨h9, rfl, bk9, b9⟩; rw [k_rd]; obtain ⟨ra, rc, hr9⟩ := own_slice bk9.1; rw [k_bl] at hr9; subst hr9; obtain ⟨rb, roff, rfl, y2, y3⟩ := kn_bytes bk9.bin.1; have hbw := hb9.trans (b9.mono hb9.size)))
      have HW : Hid (Below W.heap.size W w9) := hbw
      clear hbw hb9 hd9 hb8 hd8 bk9 b9 b8
      go_wp2_with (go_at_call 12; refine (new_of ⟨0, 0, 0, 0⟩ _ (by decide)).mono ?_; rintro e w10 ⟨b10, (⟨_, rfl⟩ | ⟨hno, _⟩)⟩; rotate_left; (exact absurd hno (by decide)))
      go_ret
      exact ⟨rfl, HW.out.trans (b10.mono HW.out.size)⟩
theorem openNo_of (s : Sh) (a : Option Addr) (n c : Nat) (W : World) (hz : -9223372036854775808 ≤ s.z) (hn : ¬ RightS s) :
    Calls Try.prog 23 #[.agg (shL s).toArray, .slice a n c] W fun e w' => e = .returned (.pointer none) ∧ Below W.heap.size W w' := by
  obtain ⟨q, hq⟩ : ∃ q, q = W.heap.size := ⟨_, rfl⟩
  have hb : Blk (W.alloc (.cells #[.int .i64 s.z, .int .i64 s.zb, .int .i64 s.b, .int .i64 s.r] 23)) q (shL s) 23 := Blk.new' hq.symm rfl
  have hbel : Below W.heap.size W (W.alloc (.cells #[.int .i64 s.z, .int .i64 s.zb, .int .i64 s.b, .int .i64 s.r] 23)) := (Below.refl _ _).alloc (Nat.le_refl _) _
  simp only [shL]
  go_enter Try.func23, Try.ntmps23
  go_upto_region 1 with fail
  rw [← hq]
  generalize hW1 : World.alloc _ _ = W1 at *
  have e0 : W1.cell? ⟨q, 0, none⟩ = some (.int .i64 s.z) := hb.cell 0
  have e1 : W1.cell? ⟨q, 1, none⟩ = some (.int .i64 s.zb) := hb.cell 1
  have e2 : W1.cell? ⟨q, 2, none⟩ = some (.int .i64 s.b) := hb.cell 2
  have e3 : W1.cell? ⟨q, 3, none⟩ = some (.int .i64 s.r) := hb.cell 3
  have HN : Hid (Calls Try.prog 12 #[.agg #[.int .i64 s.z, .int .i64 s.zb, .int .i64 s.b, .int .i64 s.r]] W1 (Newed 69 W1 s) ∧ ¬ RightS s ∧ Below W.heap.size W W1) := ⟨new_of s W1 hz, hn, hbel⟩
  clear hW1 hb hbel hq hn
  go_wp2_with (go_at_call 12; refine HN.out.1.mono ?_; rintro e w2 ⟨b2, (⟨_, rfl⟩ | ⟨hno, _⟩)⟩; rotate_left; (exact (HN.out.2.1 hno).elim))
  go_ret
  exact ⟨rfl, HN.out.2.2.trans (b2.mono HN.out.2.2.size)⟩
end Go.Proofs.Ytlkpglppkpalgaa
