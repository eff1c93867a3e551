/- P17 -/
import Derived.Test.YtcdnjeiamihhbabGreatP16
set_option linter.unusedVariables false
set_option maxRecDepth 4000
namespace Go.Proofs.YtcdnjeiamihhbabGreat
open Go.RowKit Go.Shelf
section
theorem own_set {W : World} {g : Nat} {L : List Value} {t e : TypeId} (hb : Blk W g L t) (ht : t ≠ e) {B s n : Nat} {v : Value} {xs : List Value} (hr : W.ownsRow B e s v n xs) (i : Nat) (u : Value) : (W.setCell ⟨g, i, none⟩ u).ownsRow B e s v n xs :=
 (out_cell W g i u).own hr (fun r hg e' => blk_not_row hb ht hr (by rw [hg, e']))
theorem own_under {W W' : World} {B e s n : Nat} {v : Value} {xs : List Value} (hr : W.ownsRow B e s v n xs) (hb : Below W.heap.size W W') : W'.ownsRow B e s v n xs := (below_out Non hb).own hr (fun _ _ => id)
/-- Can a block's numbers be read? -/
def OkB (s : Sh) (b : List Int) : Prop := (b.length : Int) = s.b ∧ rkM b = 1129009236 ∧ 26 + 16 * (rkN b).toNat ≤ b.length
def RdK (s : Sh) (l : List (List Int)) : Prop := RightS s ∧ (l.length : Int) ≤ s.zb ∧ ∀ b ∈ l, OkB s b
def ReadK (w : World) (s : Sh) (l : List (List Int)) (e : Ending) (w' : World) : Prop :=
 Below w.heap.size w w' ∧ ((¬ RdK s l ∧ e = diedE noCk) ∨ (RdK s l ∧ ∃ A n C, e = .returned (.agg #[.int .u64 (allSeq l), .slice A n C]) ∧ KIn w' A n (allPs l) ∧ n ≤ C))
theorem Tryz.info_state : (Tryz.prog.info? 78).map (·.size) = some 2 := by kernel_rfl
structure OSt (q : Nat) (w wr : World) (q5 : Nat) (s : Sh) (seq : Int) (A : Option Addr) (N C : Nat) (xs : List Pl) : Prop where
 shp : Blk wr q (shL s) 23
 res : Blk wr (q + 1) [.int .u64 0, .slice none 0 0] 78
 rc : Blk wr q5 [.int .u64 seq, .slice A N C] 78
 own : wr.ownsRow (q5 + 1) 131 4 (.slice A N C) N (plC xs)
 bel : Below q w wr
 lt : q + 2 ≤ q5
 heap : q = w.heap.size
section
variable {q : Nat} {w wr w' : World} {q5 : Nat} {s : Sh} {seq : Int} {A : Option Addr} {N C : Nat} {xs : List Pl}
theorem OSt.below (h : OSt q w wr q5 s seq A N C xs) (hb : Below wr.heap.size wr w') : OSt q w w' q5 s seq A N C xs := by
 have h1 := h.rc.lt
 have h2 := h.lt
 exact ⟨h.shp.below hb h.shp.lt, h.res.below hb h.res.lt, h.rc.below hb h1, own_under h.own hb, h.bel.trans (hb.mono (by omega)), h2, h.heap⟩
theorem OSt.left {g : Nat} {L : List Value} (h : OSt q w wr q5 s seq A N C xs) (hg : Blk wr g L 270) (hq : q ≤ g) (i : Nat) (u : Value) : OSt q w (wr.setCell ⟨g, i, none⟩ u) q5 s seq A N C xs :=
 ⟨h.shp.set_other (blk_ne h.shp hg (by decide)) _, h.res.set_other (blk_ne h.res hg (by decide)) _, h.rc.set_other (blk_ne h.rc hg (by decide)) _, own_set hg (by decide) h.own i u, h.bel.setCell (p := ⟨g, i, none⟩) hq _, h.lt, h.heap⟩
theorem OSt.setSeq (h : OSt q w wr q5 s seq A N C xs) (z : Int) : OSt q w (wr.setCell ⟨q5, 0, none⟩ (.int .u64 z)) q5 s z A N C xs := by
 have h2 := h.lt
 exact ⟨h.shp.set_other (by show q ≠ q5; omega) _, h.res.set_other (by show q + 1 ≠ q5; omega) _, h.rc.set 0 _, own_set h.rc (by decide) h.own 0 _, h.bel.setCell (p := ⟨q5, 0, none⟩) (by show q ≤ q5; omega) _, h2, h.heap⟩
theorem OSt.more {A' : Option Addr} {C' : Nat} {x : Pl} (h : OSt q w wr q5 s seq A N C xs) (ho : w'.ownsRow (q5 + 1) 131 4 (.slice A' (N + 1) C') (N + 1) (plC (xs ++ [x]))) (hb : Below (q5 + 1) wr w') : OSt q w (w'.setCell ⟨q5, 1, none⟩ (.slice A' (N + 1) C')) q5 s seq A' (N + 1) C' (xs ++ [x]) := by
 have h2 := h.lt
 have rc' := h.rc.below hb (by omega)
 exact ⟨(h.shp.below hb (by omega)).set_other (by show q ≠ q5; omega) _, (h.res.below hb (by omega)).set_other (by show q + 1 ≠ q5; omega) _, rc'.set 1 _, own_set rc' (by decide) ho 1 _, (h.bel.trans (hb.mono (by omega))).setCell (p := ⟨q5, 1, none⟩) (by show q ≤ q5; omega) _, h2, h.heap⟩
end
structure KSt (q : Nat) (w wr : World) (q5 q8 : Nat) (s : Sh) (seq : Int) (A : Option Addr) (N C : Nat) (xs : List Pl) (L : Option Addr) (m c : Nat) (ys : List Int) : Prop where
 o : OSt q w wr q5 s seq A N C xs
 left : Blk wr q8 [.slice L m c] 270
 bin : BIn w L m ys
 nil : L = none → m = 0 ∧ c = 0
 cap : m ≤ c
 lt : q ≤ q8
section
variable {q : Nat} {w wr w' : World} {q5 q8 : Nat} {s : Sh} {seq : Int} {A : Option Addr} {N C : Nat} {xs : List Pl} {L : Option Addr} {m c : Nat} {ys : List Int}
theorem KSt.below (h : KSt q w wr q5 q8 s seq A N C xs L m c ys) (hb : Below wr.heap.size wr w') : KSt q w w' q5 q8 s seq A N C xs L m c ys := ⟨h.o.below hb, h.left.below hb h.left.lt, h.bin, h.nil, h.cap, h.lt⟩
theorem KSt.binr (h : KSt q w wr q5 q8 s seq A N C xs L m c ys) : BIn wr L m ys := h.bin.below (by rw [← h.o.heap]; exact h.o.bel)
theorem KSt.took (h : KSt q w wr q5 q8 s seq A N C xs L m c ys) (k : Nat) (hk : k ≤ m) : ∃ L', cleftV L m c k = .slice L' (m - k) (c - k) ∧ KSt q w (wr.setCell ⟨q8, 0, none⟩ (.slice L' (m - k) (c - k))) q5 q8 s seq A N C xs L' (m - k) (c - k) (ys.drop k) :=
 ⟨_, rfl, h.o.left h.left h.lt 0 _, h.left.set 0 _, (NIn.back h.bin.n k hk h.cap).b, cback_nil hk h.nil, by have := h.cap; omega, h.lt⟩
theorem KSt.more {A' : Option Addr} {C' : Nat} {x : Pl} {o : Obj} (h : KSt q w wr q5 q8 s seq A N C xs L m c ys) (ho : w'.ownsRow (q5 + 1) 131 4 (.slice A' (N + 1) C') (N + 1) (plC (xs ++ [x]))) (hb : Below (q5 + 1) wr w') (hg : (wr.alloc o).grownBy w' (Value.ownBlock (.slice A N C))) : KSt q w (w'.setCell ⟨q5, 1, none⟩ (.slice A' (N + 1) C')) q5 q8 s seq A' (N + 1) C' (xs ++ [x]) L m c ys := by
 have l' : Blk w' q8 [.slice L m c] 270 := (h.left.alloc o).grown (by decide) (h.o.own.alloc o) hg
 have rc' := h.o.rc.below hb (by omega)
 exact ⟨h.o.more ho hb, l'.set_other (blk_ne l' rc' (by decide)) _, h.bin, h.nil, h.cap, h.lt⟩
end
/-- The body panicked; nothing is deferred. -/
def DiedK (w : World) (s : Sh) (l : List (List Int)) (e : Exit) (a : Act) (w' : World) : Prop := e = .panic [{ v := .iface 9 (.string noCk), recovered := false }] ∧ a.defers = [] ∧ ReadK w s l (diedE noCk) w'
theorem DiedK.put {w : World} {s : Sh} {l : List (List Int)} {e : Exit} {a : Act} {w' : World} {v : Value} {d : Nat} (h : DiedK w s l e (a.put (some d) v) w') : DiedK w s l e a w' := h
theorem readK_no {w w' : World} {s : Sh} {l : List (List Int)} (hb : Below w.heap.size w w') (h : ¬ RdK s l) : ReadK w s l (diedE noCk) w' := ⟨hb, .inl ⟨h, rfl⟩⟩
set_option maxHeartbeats 8000000 in
theorem kread_of (s : Sh) (a : Option Addr) (n c : Nat) (l : List (List Int)) (w : World) (hz : -9223372036854775808 ≤ s.z) (hl : BsIn w a n l) :
  Calls Tryz.prog 147 #[.agg (shL s).toArray, .slice a n c] w (ReadK w s l) := by
 obtain ⟨q, hq⟩ : ∃ q, q = w.heap.size := ⟨_, rfl⟩
 have HW : Hid (Blk ((w.alloc (.cells #[.int .i64 s.z, .int .i64 s.zb, .int .i64 s.b, .int .i64 s.r] 23)).alloc (.cells #[.int .u64 0, .slice none 0 0] 78)) q (shL s) 23 ∧ Blk ((w.alloc (.cells #[.int .i64 s.z, .int .i64 s.zb, .int .i64 s.b, .int .i64 s.r] 23)).alloc (.cells #[.int .u64 0, .slice none 0 0] 78)) (q + 1) [.int .u64 0, .slice none 0 0] 78 ∧ Below q w ((w.alloc (.cells #[.int .i64 s.z, .int .i64 s.zb, .int .i64 s.b, .int .i64 s.r] 23)).alloc (.cells #[.int .u64 0, .slice none 0 0] 78))) :=
  ⟨(Blk.new' hq.symm rfl).alloc _, Blk.new' (by simp [hq]) rfl, ((Below.refl _ _).alloc (by omega) _).alloc (by simp; omega) _⟩
 have H : Hid (BsIn w a n l ∧ q = w.heap.size ∧ -9223372036854775808 ≤ s.z) := ⟨hl, hq, hz⟩
 have hn5 : n ≤ 100000 := hl.2.1
 clear hl hz
 simp only [shL]
 go_enter Tryz.func147, Tryz.ntmps147
 go_upto_region 1 with fail
 rw [← hq]
 clear hq
 generalize hW : World.alloc (World.alloc w _) _ = W at HW ⊢
 clear hW
 have c0 : W.cell? ⟨q, 0, none⟩ = some (.int .i64 s.z) := HW.out.1.cell 0
 have c1 : W.cell? ⟨q, 1, none⟩ = some (.int .i64 s.zb) := HW.out.1.cell 1
 have c2 : W.cell? ⟨q, 2, none⟩ = some (.int .i64 s.b) := HW.out.1.cell 2
 have c3 : W.cell? ⟨q, 3, none⟩ = some (.int .i64 s.r) := HW.out.1.cell 3
 have hR : Calls Tryz.prog 60 #[.agg #[.int .i64 s.z, .int .i64 s.zb, .int .i64 s.b, .int .i64 s.r]] W fun e w' => e = .returned (.bool (decide (RightS s))) ∧ Below W.heap.size W w' := right_of s W H.out.2.2
 by_cases hr : RightS s
 ·rw [decide_eq_true hr] at hR
  have HR : Hid (Calls Tryz.prog 60 #[.agg #[.int .i64 s.z, .int .i64 s.zb, .int .i64 s.b, .int .i64 s.r]] W fun e w' => e = .returned (.bool true) ∧ Below W.heap.size W w') := hR
  have HS : Hid (RightS s) := hr
  clear hR hr
  by_cases hbig : (n : Int) ≤ s.zb
  ·have hbf : decide (s.zb < (n : Int)) = false := by simp; omega
   have HBg : Hid ((n : Int) ≤ s.zb) := hbig
   clear hbig
   go_wp2_with (go_at_call 60; refine HR.out.mono ?_; rintro e W1 ⟨rfl, b1⟩; have c1' : W1.cell? ⟨q, 1, none⟩ = some (.int .i64 s.zb) := (HW.out.1.below b1 HW.out.1.lt).cell 1)
   obtain ⟨q5, hq5⟩ : ∃ q5, q5 = W1.heap.size := ⟨_, rfl⟩
   have st0 : OSt q w (W1.alloc (.cells #[.int .u64 0, .slice none 0 0] 78)) q5 s 0 none 0 0 [] := by
    have k0 := HW.out.1.below b1 HW.out.1.lt
    have k1 := HW.out.2.1.below b1 HW.out.2.1.lt
    have hsz := k1.lt
    exact ⟨k0.alloc _, k1.alloc _, Blk.new' hq5.symm rfl, World.ownsRow_nil _ _ _ _, (HW.out.2.2.trans (b1.mono (by have := HW.out.1.lt; omega))).alloc (by omega) _, by omega, H.out.2.1⟩
   rw [← hq5]
   clear hq5 b1 c0 c1 c2 c3 c1'
   generalize hW2 : World.alloc W1 _ = W2 at st0 ⊢
   have H0 : Hid (OSt q w W2 q5 s 0 none 0 0 []) := st0
   have hbp := pow_bounds (show s.b ∈ PowR from HS.out.2.2.2.2.1)
   have hzb4 := HS.out.2.2.2.1
   have HP : Hid (64 ≤ s.b ∧ s.b ≤ 4096 ∧ s.zb ≤ 4096) := ⟨hbp.1, hbp.2, hzb4⟩
   clear st0 hW2 hbp hzb4
   go_loopw [23] (fun x wr => ∃ (i : Nat) (A : Option Addr) (N C : Nat), x = .int .i64 i ∧ i ≤ n ∧ OSt q w wr q5 s (allSeq (l.take i)) A N C (allPs (l.take i)) ∧ (∀ b ∈ l.take i, OkB s b) ∧ N ≤ 254 * i) (fun x _ => n - (intOf x).toNat)
   case atStart => exact ⟨0, none, 0, 0, rfl, Nat.zero_le _, by simpa [allSeq, allPs] using H0.out, by simp, by omega⟩
   case round =>
    obtain ⟨i, A, N, C, rfl, hi, st, hok, hN⟩ := hrel
    obtain ⟨wo, hwo⟩ : ∃ wo : World, wo = wr := ⟨_, rfl⟩
    subst hwo
    rcases Nat.lt_or_ge i n with hlt | hge
    ·obtain ⟨D, hD⟩ : ∃ D, l[i]? = some D := ⟨l[i]'(by have := H.out.1.1; omega), by simp⟩
     obtain ⟨b', off, A1, L1, C1, hA, k1, k2, k3, k4, k5⟩ := (H.out.1.below (by rw [← H.out.2.1]; exact st.bel)).at hD
     subst hA
     obtain ⟨_, _, A2, L2, C2, hA2, k1', k2', _⟩ := H.out.1.at hD
     have hk2 : BIn w A1 L1 D := by
      cases hA2
      have e1 : wo.cell? ⟨b', off + i, none⟩ = some (.slice A2 L2 C2) := by rw [(show Below w.heap.size w wo by rw [← H.out.2.1]; exact st.bel).cell (old_block k1')]; exact k1'
      rw [k1] at e1
      cases e1
      exact k2'
     have hi' : (i : Int) < n := by omega
     have hwi : IntKind.i64.wrap ((i : Int) + 1) = (i : Int) + 1 := by rw [IntKind.wrap_i64]; omega
     have hLD : D.length = L1 := k2.1
     have s2 : wo.cell? ⟨q, 2, none⟩ = some (.int .i64 s.b) := st.shp.cell 2
     have HD : Hid (l[i]? = some D ∧ D.length = L1 ∧ BIn w A1 L1 D ∧ (A1 = none → L1 = 0 ∧ C1 = 0) ∧ L1 ≤ C1 ∧ L1 ≤ 100000 ∧ (∀ b ∈ l.take i, OkB s b) ∧ N ≤ 254 * i) := ⟨hD, hLD, hk2, k3, k4, k5, hok, hN⟩
     clear hD hLD hk2 k2 k3 k4 k5 hok hN hA2 k1' k2'
     by_cases hLb : (L1 : Int) = s.b
     ·have hLn : 64 ≤ L1 ∧ L1 ≤ 4096 := by have := HP.out; omega
      obtain ⟨q8, hq8⟩ : ∃ q8, q8 = wo.heap.size := ⟨_, rfl⟩
      have b8 : Below wo.heap.size wo (wo.alloc (.cells #[.slice A1 L1 C1] 270)) := (Below.refl _ _).alloc (Nat.le_refl _) _
      have st8 : KSt q w (wo.alloc (.cells #[.slice A1 L1 C1] 270)) q5 q8 s (allSeq (l.take i)) A N C (allPs (l.take i)) A1 L1 C1 D := ⟨st.below b8, Blk.new' hq8.symm rfl, HD.out.2.2.1, HD.out.2.2.2.1, HD.out.2.2.2.2.1, by have := st.rc.lt; have := st.lt; omega⟩
      have HLb : Hid ((L1 : Int) = s.b ∧ 64 ≤ L1 ∧ L1 ≤ 4096 ∧ q5 < q8) := ⟨hLb, hLn.1, hLn.2, by rw [hq8]; exact st.rc.lt⟩
      have hbq : ((L1 : Int) != s.b) = false := by rw [hLb]; simp
      clear st b8 hLb hLn
      go_upto_region 10 with fail
      rw [← hq8]
      clear hq8 k1 s2 hbq
      generalize hW8 : World.alloc wo _ = W8 at st8 ⊢
      have H8 : Hid (KSt q w W8 q5 q8 s (allSeq (l.take i)) A N C (allPs (l.take i)) A1 L1 C1 D) := st8
      clear st8 hW8
      go_wp2_with fail
      refine (khead_of W8).mono ?_
      rintro e V1 ⟨rfl, rfl⟩
      go_wp2_with fail
      have b1 : Below W8.heap.size W8 (W8.alloc (.cells #[.int .i64 4, .int .i64 4, .int .i64 4, .int .i64 4, .int .i64 8, .int .i64 2] 3)) := (Below.refl _ _).alloc (Nat.le_refl _) _
      have n1 := nin_hk (w := W8) rfl
      generalize hV1 : World.alloc W8 _ = V1 at n1 b1 ⊢
      have t1 := H8.out.below b1
      refine (ctake_of q8 A1 L1 C1 26 D (some ⟨W8.heap.size, 0, none⟩) 6 6 hkW V1 off_hk.symm (t1.left.cell 0) (t1.left.frozen 0) t1.binr t1.nil t1.cap n1 (by have := HLb.out; omega) (by omega)).mono ?_
      rintro e W3 (⟨hen, A3, k3, C3, W2', rfl, b2, rfl, ow⟩ | ⟨hfew, _, _⟩)
      rotate_left
      ·exact absurd hfew (by rw [off_hk]; have := HLb.out; omega)
      rw [off_hk] at hen ⊢
      rw [val_hk] at ow
      have t2 := t1.below b2
      obtain ⟨L0, eL0, t3⟩ := t2.took 26 hen
      have ow3 := own_set t2.left (by decide) ow 0 (cleftV A1 L1 C1 26)
      rw [eL0] at ow3 ⊢
      generalize hW3 : World.setCell W2' _ _ = W3 at ow3 t3 ⊢
      obtain ⟨g, rfl, hk, hg, hkC, hc⟩ := cown_at ow3 (by simp)
      have hk6 : k3 = 6 := by simpa using hk
      subst hk6
      have c0 : W3.cell? ⟨g, 0, none⟩ = some (.int .u64 (rkM D)) := hc 0 (by simp)
      have c4 : W3.cell? ⟨g, 4, none⟩ = some (.int .u64 (rkSeq D)) := hc 4 (by simp)
      have c5 : W3.cell? ⟨g, 5, none⟩ = some (.int .u64 (rkN D)) := hc 5 (by simp)
      have hNf := rkN_fits HD.out.2.2.1.2.2.1
      have hIf := rkL_fits (rkN D).toNat (ys := D.drop 26) (fun z hz => HD.out.2.2.1.2.2.1 z (List.mem_of_mem_drop hz))
      obtain ⟨M, hM⟩ : ∃ M, M = rkM D := ⟨_, rfl⟩
      obtain ⟨S, hS⟩ : ∃ S, S = rkSeq D := ⟨_, rfl⟩
      obtain ⟨K, hK⟩ : ∃ K : Nat, rkN D = K := ⟨(rkN D).toNat, by have := hNf.1; omega⟩
      rw [← hM] at c0
      rw [← hS] at c4
      rw [hK] at c5
      have hKs : K < 65536 := by have := hNf.2; omega
      have hgq : g ≠ q5 := by have := t1.o.rc.lt; omega
      have H3 : Hid (KSt q w W3 q5 q8 s (allSeq (l.take i)) A N C (allPs (l.take i)) L0 (L1 - 26) (C1 - 26) (D.drop 26)) := t3
      have HF : Hid (M = rkM D ∧ S = rkSeq D ∧ rkN D = K ∧ (∀ x ∈ rkL K (D.drop 26), Fit2 x) ∧ rkPs D = rkL K (D.drop 26)) := ⟨hM, hS, hK, by rw [hK] at hIf; exact hIf, by unfold rkPs; rw [hK]; rfl⟩
      clear ow ow3 t1 t2 t3 hW3 hk hg hkC hc hNf hIf hM hS hK b2 n1 b1 hV1 eL0 hen
      by_cases hMm : M = 1129009236
      ·have HM : Hid (M = 1129009236) := hMm
       have hMb : (M != 1129009236) = false := by rw [hMm]; rfl
       have r0 : W3.cell? ⟨q5, 0, none⟩ = some (.int .u64 (allSeq (l.take i))) := H3.out.o.rc.cell 0
       have z0 := H3.out.o.rc.frozen 0
       have st5 : KSt q w (W3.setCell ⟨q5, 0, none⟩ (.int .u64 S)) q5 q8 s S A N C (allPs (l.take i)) L0 (L1 - 26) (C1 - 26) (D.drop 26) := ⟨H3.out.o.setSeq S, H3.out.left.set_other (blk_ne H3.out.left H3.out.o.rc (by decide)) _, H3.out.bin, H3.out.nil, H3.out.cap, H3.out.lt⟩
       have c5' : (W3.setCell ⟨q5, 0, none⟩ (.int .u64 S)).cell? ⟨g, 5, none⟩ = some (.int .u64 (K : Int)) := kept_set c5 hgq
       clear hMm
       go_upto_region 14 with fail
       generalize hW5 : World.setCell W3 _ _ = W5 at st5 c5' ⊢
       have H5 : Hid (KSt q w W5 q5 q8 s S A N C (allPs (l.take i)) L0 (L1 - 26) (C1 - 26) (D.drop 26)) := st5
       clear st5 c0 c4 c5 hMb hW5 r0 z0
       go_wp2
       go_loopw [49] (fun x wr => ∃ (j : Nat) (A' : Option Addr) (N' C' : Nat) (L : Option Addr) (m' c'' : Nat), x = .int .u64 j ∧ j ≤ K ∧ 26 + 16 * j + m' = L1 ∧ N' = N + j ∧ KSt q w wr q5 q8 s S A' N' C' (allPs (l.take i) ++ rkL j (D.drop 26)) L m' c'' (D.drop (26 + 16 * j))) (fun x _ => K - (intOf x).toNat)
       case atStart => exact ⟨0, A, N, C, L0, L1 - 26, C1 - 26, rfl, Nat.zero_le _, by have := HLb.out; omega, by omega, by simpa [rkL] using H5.out⟩
       case round =>
        obtain ⟨j, A', N', C', L, m', c'', rfl, hj, hmn, hN', st⟩ := hrel
        rcases Nat.lt_or_ge j K with hlt2 | hge2
        ·have hj' : (j : Int) < K := by omega
         have hwj : IntKind.u64.wrap ((j : Int) + 1) = (j : Int) + 1 := by rw [IntKind.wrap_u64]; omega
         have v1 : wr.cell? ⟨q5, 1, none⟩ = some (.slice A' N' C') := st.o.rc.cell 1
         have v2 : ∀ o, (wr.alloc o).cell? ⟨q5, 1, none⟩ = some (.slice A' N' C') := fun o => (st.o.rc.alloc o).cell 1
         have hST : Hid (KSt q w wr q5 q8 s S A' N' C' (allPs (l.take i) ++ rkL j (D.drop 26)) L m' c'' (D.drop (26 + 16 * j)) ∧ 26 + 16 * j + m' = L1 ∧ N' = N + j) := ⟨st, hmn, hN'⟩
         have hTk : Hid (∀ (V : World) (b : Nat), V = (wr.alloc (.cells #[.int .i64 4, .int .i64 8, .int .i64 2, .int .i64 2] 3)).drew → b = wr.heap.size → Calls Tryz.prog 192 #[.pointer (some ⟨q8, 0, none⟩), .int .i64 16, .slice (some ⟨b, 0, none⟩) 4 4] V (CTook q8 L m' c'' (D.drop (26 + 16 * j)) plW V)) := by
          intro V b hV hb
          subst hb
          have sV : KSt q w V q5 q8 s S A' N' C' (allPs (l.take i) ++ rkL j (D.drop 26)) L m' c'' (D.drop (26 + 16 * j)) := st.below (by rw [hV]; exact ((Below.refl _ _).alloc (Nat.le_refl _) _).drew)
          exact ctake_of q8 L m' c'' 16 _ _ 4 4 plW V off_pl.symm (sV.left.cell 0) (sV.left.frozen 0) sV.binr sV.nil sV.cap (by rw [hV]; exact (nin_pl rfl).drew) (by have := HLb.out; omega) (by omega)
         have hN'b : N' + 1 ≤ 10000000 := by have := HD.out.2.2.2.2.2.2.2; have := HBg.out; have := HP.out; omega
         clear st hmn hN'
         by_cases hm16 : 16 ≤ m'
         ·obtain ⟨X, hX⟩ : ∃ X, X = rkP (D.drop (26 + 16 * j)) := ⟨_, rfl⟩
          have hXf : Fit2 X := by rw [hX]; exact rkP_fits (fun z hz => HD.out.2.2.1.2.2.1 z (List.mem_of_mem_drop hz))
          have HX : Hid (X = rkP (D.drop (26 + 16 * j)) ∧ Fit2 X ∧ 16 ≤ m' ∧ N' + 1 ≤ 10000000) := ⟨hX, hXf, hm16, hN'b⟩
          have hnx : Hid (rkL (j + 1) (D.drop 26) = rkL j (D.drop 26) ++ [X]) := by
           show _ = _
           rw [rkL_snoc, List.drop_drop, ← hX]
          clear hX hXf hm16 hN'b
          go_wp2
          go_region_law (first
           | (go_simp; go_at_call 194; refine (kplaceW_of _).mono ?_; rintro e V1 ⟨rfl, rfl⟩)
           | (go_simp; go_at_call 192; refine (hTk.out _ _ rfl rfl).mono ?_; rintro e V3 (⟨_, A2, k2, C2, V2, rfl, b2, rfl, ow2⟩ | ⟨hfew, _, _⟩); rotate_left; (exact absurd HX.out.2.2.1 (by rw [off_pl] at hfew; omega)); rw [val_pl, ← HX.out.1] at ow2; rw [off_pl]; have stV2 := hST.out.1.below (((Below.refl _ _).alloc (Nat.le_refl _) _).drew.trans (b2.mono (by simp))); have stV := stV2.took 16 HX.out.2.2.1; have ow3 := own_set stV2.left (by decide) ow2 0 (cleftV L m' c'' 16); obtain ⟨L', eL, st3⟩ := stV; rw [eL] at ow3 ⊢; generalize World.setCell V2 _ _ = V3 at st3 ow3 ⊢; obtain ⟨gN, eA, hk4, _, _, hcN⟩ := cown_at ow3 (by simp [plV]); cases eA; have hk4' : k2 = 4 := (by simpa [plV] using hk4); subst hk4'; clear hk4; have n0 : V3.cell? ⟨gN, 0, none⟩ = some (.int .u64 X.1.1) := hcN 0 (by simp [plV]); have n1 : V3.cell? ⟨gN, 1, none⟩ = some (.int .u64 X.1.2) := hcN 1 (by simp [plV]); have n2 : V3.cell? ⟨gN, 2, none⟩ = some (.int .u64 X.2.1) := hcN 2 (by simp [plV]); have n3 : V3.cell? ⟨gN, 3, none⟩ = some (.int .u64 X.2.2) := hcN 3 (by simp [plV]); have m1 : V3.cell? ⟨q5, 1, none⟩ = some (.slice A' N' C') := st3.o.rc.cell 1)
           | (go_simp; go_at_call 193; refine (kplace_of gN C2 X _ n0 n1 n2 n3 HX.out.2.1).mono ?_; rintro e V4 ⟨rfl, b4⟩; have st4 := st3.below b4; have m2 : V4.cell? ⟨q5, 1, none⟩ = some (.slice A' N' C') := st4.o.rc.cell 1; have m3 : ∀ o, (V4.alloc o).cell? ⟨q5, 1, none⟩ = some (.slice A' N' C') := fun o => (st4.o.rc.alloc o).cell 1; obtain ⟨a9, c9, w9, e9, o9, b9, g9⟩ := app_place st4.o.own X HX.out.2.2.2 (by have := st4.o.rc.lt; omega); have rc9 := st4.o.rc.below b9 (by omega); have m4 : w9.cell? ⟨q5, 1, none⟩ = some (.slice A' N' C') := rc9.cell 1; have m5 := rc9.frozen 1; have st9 := st4.more o9 b9 g9)
           | (refine cstep_append_run rfl (.tmp 52) (.tmp 56) 76 76 rfl _ _ rfl rfl _ _ e9 ?_))
          all_goals (
           have H9 : Hid (KSt q w (w9.setCell ⟨q5, 1, none⟩ (.slice a9 (N' + 1) c9)) q5 q8 s S a9 (N' + 1) c9 (allPs (l.take i) ++ rkL (j + 1) (D.drop 26)) L' (m' - 16) (c'' - 16) (D.drop (26 + 16 * (j + 1)))) := by
            rw [List.drop_drop, List.append_assoc, ← hnx.out] at st9
            exact st9
           clear e9 o9 b9 g9 rc9 m4 m5 st9 st4 b4 m2 m3 st3 ow3 ow2 b2 n0 n1 n2 n3 m1 hcN v1 v2 eL stV2
           generalize World.setCell w9 _ _ = V9 at H9 ⊢
           go_wp2
           go_roundw
           case rel => exact ⟨j + 1, a9, N' + 1, c9, L', m' - 16, c'' - 16, by simp, by omega, by have := HX.out.2.2; have := hST.out.2; omega, by have := hST.out.2.2; omega, H9.out⟩
           case measure => simp [intOf]; omega)
         ·have HNo : Hid (¬ RdK s l ∧ m' < 16) := ⟨fun h => by
           have h1 := (h.2.2 D (List.mem_of_getElem? HD.out.1)).2.2
           rw [HF.out.2.2.1, HD.out.2.1] at h1
           have := hST.out.2.1
           omega, by omega⟩
          clear hm16 hN'b
          have HPP : Hid (∀ V3, Below (wr.alloc (.cells #[.int .i64 4, .int .i64 8, .int .i64 2, .int .i64 2] 3)).drew.heap.size (wr.alloc (.cells #[.int .i64 4, .int .i64 8, .int .i64 2, .int .i64 2] 3)).drew V3 → ReadK w s l (diedE noCk) V3) := fun V3 b2 => readK_no (by rw [← H.out.2.1]; exact hST.out.1.o.bel.trans (((Below.refl _ _).alloc (by have := hST.out.1.o.rc.lt; have := hST.out.1.o.lt; omega) _).drew.trans (b2.mono (by have := hST.out.1.o.rc.lt; have := hST.out.1.o.lt; simp; omega)))) HNo.out.1
          go_wp2
          refine Code.wp_mono (Q := DiedK w s l) ?_ ?_
          ·rintro e ⟨tmps, defers⟩ w' ⟨rfl, h2, h3⟩
           dsimp only at h2
           subst h2
           exact ⟨rfl, h3⟩
          ·refine wp_region_held_drew (S := fun V => V.cell? ⟨q5, 1, none⟩ = some (.slice A' N' C')) (by kernel_rfl) (by exact v1) (fun hS => ?_)
           refine wpAnyH_take (i := 0) (oi := { dst := some 51, op := Op.fieldAddr 78 (Operand.tmp 5) 1, type := 0, pos := "ckpt.go:204", after := #[], guard := none }) (v := .pointer (some ⟨q5, 1, none⟩)) rfl (by kernel_rfl) (by kernel_rfl) (by kernel_rfl) (fun _ _ _ h => DiedK.put h) (Or.inl ⟨by rfl, fun w hw => by go_simp⟩) hS ?_
           simp only [Act.put, List.setIfInBounds_toArray, List.set_cons_zero, List.set_cons_succ]
           refine wpAnyH_take (i := 1) (oi := { dst := some 52, op := Op.load 76 (Operand.tmp 51), type := 76, pos := "ckpt.go:204", after := #[{ on := 0, ground := Ground.data }], guard := none }) (v := .slice A' N' C') rfl (by kernel_rfl) (by kernel_rfl) (by kernel_rfl) (fun _ _ _ h => DiedK.put h) (Or.inl ⟨by rfl, fun w hw => by go_simp⟩) hS ?_
           simp only [Act.put, List.setIfInBounds_toArray, List.set_cons_zero, List.set_cons_succ]
           refine wpAnyH_ready (rs := [2]) (by kernel_rfl) (by simp) (AllReadyH.cons (o := { dst := some 53, op := Op.call { callee := Callee.value (Operand.func 194), args := #[], argTypes := #[] }, type := 38, pos := "ckpt.go:204", after := #[], guard := none }) rfl (fun KK hK => ?_) AllReadyH.nil)
           go_simp
           refine (kplaceW_of _).mono ?_
           rintro e V1 ⟨rfl, rfl⟩
           refine hK.out _ _ (by exact v2 _) (fun hS' => ?_)
           clear hK KK hS'
           refine wpAnyH_ready (rs := [3]) (by kernel_rfl) (by simp) (AllReadyH.cons (o := { dst := some 54, op := Op.call { callee := Callee.value (Operand.func 192), args := #[Operand.tmp 8, Operand.const (Value.int IntKind.i64 16), Operand.tmp 53], argTypes := #[270, 3, 38] }, type := 82, pos := "ckpt.go:204", after := #[{ on := 2, ground := Ground.data }, { on := 2, ground := Ground.chain }], guard := none }) rfl (fun KK hK => ?_) AllReadyH.nil)
           go_simp
           refine (hTk.out _ _ rfl rfl).mono ?_
           rintro e V3 (⟨hen2, _⟩ | ⟨_, he, b2⟩)
           ·exact absurd HNo.out.2 (by rw [off_pl] at hen2; omega)
           ·unfold diedE at he
            subst he
            exact ⟨rfl, rfl, HPP.out V3 b2⟩
        ·obtain rfl : j = K := by omega
         have HG : Hid (OSt q w wr q5 s (allSeq (l.take (i + 1))) A' N' C' (allPs (l.take (i + 1))) ∧ (∀ b ∈ l.take (i + 1), OkB s b) ∧ N' ≤ 254 * (i + 1)) := by
          have hsnoc := take_snoc HD.out.1
          have hok : OkB s D := ⟨by rw [HD.out.2.1]; exact HLb.out.1, HF.out.1.symm.trans HM.out, by rw [HF.out.2.2.1, HD.out.2.1]; omega⟩
          refine ⟨?_, ?_, ?_⟩
          ·rw [hsnoc, allSeq_snoc, allPs_snoc, HF.out.2.2.2.2, ← HF.out.2.1]
           exact st.o
          ·intro b hb
           rw [hsnoc] at hb
           rcases List.mem_append.1 hb with h | h
           ·exact HD.out.2.2.2.2.2.2.1 b h
           ·simp at h; rw [h]; exact hok
          ·have := HD.out.2.2.2.2.2.2.2; have := HLb.out; omega
         clear st hmn hN'
         go_wp2
         go_roundw
         case rel => exact ⟨i + 1, A', N', C', by simp, by omega, HG.out⟩
         case measure => simp [intOf]; omega
      ·have hMb : (M != 1129009236) = true := by simp [hMm]
       have HN : Hid (ReadK w s l (diedE noCk) W3) := readK_no (by rw [← H.out.2.1]; exact H3.out.o.bel) (fun h => hMm (HF.out.1.trans (h.2.2 D (List.mem_of_getElem? HD.out.1)).2.1))
       clear hMm
       go_wp2
       exact ⟨rfl, HN.out⟩
     ·have HN : Hid (ReadK w s l (diedE noCk) wo) := readK_no (by rw [← H.out.2.1]; exact st.bel) (fun h => hLb (by have := (h.2.2 D (List.mem_of_getElem? HD.out.1)).1; rw [HD.out.2.1] at this; exact this))
      clear st
      go_wp2
      exact ⟨rfl, HN.out⟩
    ·obtain rfl : i = n := by omega
     have htk : l.take i = l := List.take_of_length_le (by rw [H.out.1.1]; exact Nat.le_refl _)
     rw [htk] at st hok
     have k0 : wo.cell? ⟨q5, 0, none⟩ = some (.int .u64 (allSeq l)) := st.rc.cell 0
     have k1 : wo.cell? ⟨q5, 1, none⟩ = some (.slice A N C) := st.rc.cell 1
     have d0 : wo.cell? ⟨q + 1, 0, none⟩ = some (.int .u64 0) := st.res.cell 0
     have d1 : wo.cell? ⟨q + 1, 1, none⟩ = some (.slice none 0 0) := st.res.cell 1
     have z0 := st.res.frozen 0
     have z1 := st.res.frozen 1
     have bR : Blk ((wo.setCell ⟨q + 1, 0, none⟩ (.int .u64 (allSeq l))).setCell ⟨q + 1, 1, none⟩ (.slice A N C)) (q + 1) [.int .u64 (allSeq l), .slice A N C] 78 := (st.res.set 0 _).set 1 _
     have oR := own_set (st.res.set 0 (.int .u64 (allSeq l))) (by decide) (own_set st.res (by decide) st.own 0 (.int .u64 (allSeq l))) 1 (.slice A N C)
     have bel9 := (st.bel.setCell (p := ⟨q + 1, 0, none⟩) (by show q ≤ q + 1; omega) (.int .u64 (allSeq l))).setCell (p := ⟨q + 1, 1, none⟩) (by show q ≤ q + 1; omega) (.slice A N C)
     have HZ : Hid (Blk ((wo.setCell ⟨q + 1, 0, none⟩ (.int .u64 (allSeq l))).setCell ⟨q + 1, 1, none⟩ (.slice A N C)) (q + 1) [.int .u64 (allSeq l), .slice A N C] 78 ∧ ReadK w s l (.returned (.agg #[.int .u64 (allSeq l), .slice A N C])) ((wo.setCell ⟨q + 1, 0, none⟩ (.int .u64 (allSeq l))).setCell ⟨q + 1, 1, none⟩ (.slice A N C))) := by
      refine ⟨bR, by rw [← H.out.2.1]; exact bel9, .inr ⟨⟨HS.out, by rw [H.out.1.1]; exact HBg.out, hok⟩, A, N, C, rfl, ?_, (own_cap oR).1⟩⟩
      refine own_kin oR (by unfold maxLen; omega) (fun x hx => ?_)
      obtain ⟨b, hb, hx⟩ := List.mem_flatMap.1 hx
      obtain ⟨j, hj⟩ := List.getElem?_of_mem hb
      obtain ⟨_, _, _, _, _, _, _, hbin, _⟩ := H.out.1.at hj
      exact (rkL_fits _ (fun z hz => hbin.2.2.1 z (List.mem_of_mem_drop hz)) x hx).fits
     clear bR oR bel9 st hok hN
     go_wp2
     exact bodyPost_ret (results_cell_one (p := 4) (ty := 78) rfl _ _ (q + 1) _ _ _ rfl HZ.out.1 Tryz.underlying78 rfl Tryz.info_state) rfl HZ.out.2
  ·have hbig' : s.zb < (n : Int) := by omega
   have HN : Hid (¬ RdK s l) := fun h => by have := h.2.1; rw [H.out.1.1] at this; omega
   clear hbig
   go_wp2_with (go_at_call 60; refine HR.out.mono ?_; rintro e W1 ⟨rfl, b1⟩; have c1' : W1.cell? ⟨q, 1, none⟩ = some (.int .i64 s.zb) := (HW.out.1.below b1 HW.out.1.lt).cell 1)
   exact ⟨rfl, readK_no (by rw [← H.out.2.1]; exact HW.out.2.2.trans (b1.mono (by have := HW.out.1.lt; omega))) HN.out⟩
 ·rw [decide_eq_false hr] at hR
  have HR : Hid (Calls Tryz.prog 60 #[.agg #[.int .i64 s.z, .int .i64 s.zb, .int .i64 s.b, .int .i64 s.r]] W fun e w' => e = .returned (.bool false) ∧ Below W.heap.size W w') := hR
  have HN : Hid (¬ RdK s l) := fun h => hr h.1
  clear hR hr
  go_wp2_with (go_at_call 60; refine HR.out.mono ?_; rintro e W1 ⟨rfl, b1⟩)
  exact ⟨rfl, readK_no (by rw [← H.out.2.1]; exact HW.out.2.2.trans (b1.mono (by have := HW.out.1.lt; omega))) HN.out⟩
end
end Go.Proofs.YtcdnjeiamihhbabGreat
