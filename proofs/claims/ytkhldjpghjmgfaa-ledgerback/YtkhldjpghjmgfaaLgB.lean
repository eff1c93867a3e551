/- The program's ledger and the document's, side by side; a call on both. -/
import Derived.Test.YtkhldjpghjmgfaaLgX
import Derived.Test.YtkhldjpghjmgfaaLgDT
import Derived.Deep.RegionHeld3
namespace Go.Proofs.Ytkhldjpghjmgfaa
open Go.RowKit
set_option linter.unusedVariables false
set_option maxRecDepth 4000

structure Bo (W w : World) (p b1 b2 n m r : Nat) (Q : Qs) (u v : Int → Int) : Prop where
  x : XP W w p b1 b2 n m Q u
  d : LD w W.heap.size r Q v
section
variable {W w w' : World} {p b1 b2 n m r : Nat} {Q : Qs} {u v : Int → Int}
theorem XP.below (h : XP W w p b1 b2 n m Q u) (hb : Below w.heap.size w w') : XP W w' p b1 b2 n m Q u := ⟨h.lp.below hb, h.bel.trans (hb.mono h.bel.size), h.lo⟩
theorem Bo.below (h : Bo W w p b1 b2 n m r Q u v) (hb : Below w.heap.size w w') : Bo W w' p b1 b2 n m r Q u v := ⟨h.x.below hb, h.d.below hb⟩
theorem Bo.drewN (h : Bo W w p b1 b2 n m r Q u v) (j : Nat) : Bo W (w.drewN j) p b1 b2 n m r Q u v := h.below (drewN_below _ _ _)
theorem Bo.take {t c : Int} (h : Bo W w p b1 b2 n m r Q u v) (ht : FitsW t) (hc : FitsQ c) (hm : m < 100000) :
    Calls Try.prog 24 #[.pointer (some ⟨p, 0, none⟩), .int .u32 t, .int .u64 c] w fun e w' => e = .returned (.bool (okL Q u (false, t, c))) ∧ Bo W w' p b1 b2 n (m + 1) r Q (doL Q u (false, t, c)) v ∧ Out (InB b2) w w' := by
  refine (lTake_of p b1 b2 n m Q u t c w h.x.lp ht hc hm).mono ?_
  rintro e w' ⟨rfl, h1, o1⟩
  exact ⟨rfl, ⟨⟨h1, h.x.bel.trans (o1.below h.x.bel.size (by rintro j rfl; exact h.x.lo)), h.x.lo⟩, h.d.prog h.x.lp o1⟩, o1⟩
theorem Bo.give {t c : Int} (h : Bo W w p b1 b2 n m r Q u v) (ht : FitsW t) (hc : FitsQ c) (hm : m < 100000) :
    Calls Try.prog 23 #[.pointer (some ⟨p, 0, none⟩), .int .u32 t, .int .u64 c] w fun e w' => e = .returned (.bool (okL Q u (true, t, c))) ∧ Bo W w' p b1 b2 n (m + 1) r Q (doL Q u (true, t, c)) v ∧ Out (InB b2) w w' := by
  refine (lGive_of p b1 b2 n m Q u t c w h.x.lp ht hc hm).mono ?_
  rintro e w' ⟨rfl, h1, o1⟩
  exact ⟨rfl, ⟨⟨h1, h.x.bel.trans (o1.below h.x.bel.size (by rintro j rfl; exact h.x.lo)), h.x.lo⟩, h.d.prog h.x.lp o1⟩, o1⟩
theorem Bo.dtake {t c : Int} (h : Bo W w p b1 b2 n m r Q u v) (hc : FitsQ c) (hl : Q.length ≤ 1000) :
    Calls Try.prog 31 #[.pointer (some ⟨r, 0, none⟩), .int .u32 t, .int .u64 c] w fun e w' => e = .returned (.bool (okL Q v (false, t, c))) ∧ Bo W w' p b1 b2 n m r Q u (doL Q v (false, t, c)) ∧ DocOut W.heap.size w w' := by
  refine (dlTake_of W.heap.size r Q v t c w h.d hl hc).mono ?_
  rintro e w' ⟨rfl, h1, o1⟩
  exact ⟨rfl, ⟨⟨h.x.lp.doc o1, h.x.bel.trans (o1.below h.x.bel.size), h.x.lo⟩, h1⟩, o1⟩
theorem Bo.dgive {t c : Int} (h : Bo W w p b1 b2 n m r Q u v) (hc : FitsQ c) (hl : Q.length ≤ 1000) :
    Calls Try.prog 30 #[.pointer (some ⟨r, 0, none⟩), .int .u32 t, .int .u64 c] w fun e w' => e = .returned (.bool (okL Q v (true, t, c))) ∧ Bo W w' p b1 b2 n m r Q u (doL Q v (true, t, c)) ∧ DocOut W.heap.size w w' := by
  refine (dlGive_of W.heap.size r Q v t c w h.d hl hc).mono ?_
  rintro e w' ⟨rfl, h1, o1⟩
  exact ⟨rfl, ⟨⟨h.x.lp.doc o1, h.x.bel.trans (o1.below h.x.bel.size), h.x.lo⟩, h1⟩, o1⟩
end
theorem Blk.inB {w w' : World} {b g : Nat} {L : List Value} {t : TypeId} {n m : Nat} {u : Int → Int} (h : Blk w g L t) (hu : UMap w b n u) (ho : Out (InB b) w w') : Blk w' g L t := ho.blk h (fun e => hu.no_cells h e)
theorem Blk.doc {w w' : World} {g B : Nat} {L : List Value} {t : TypeId} (h : Blk w g L t) (hne : t ≠ 63) (ho : DocOut B w w') : Blk w' g L t := by
  obtain ⟨k, h1, h2, h3⟩ := ho
  refine h1.blk h ?_
  rintro rfl
  obtain ⟨cur, hc⟩ := h3 h.lt
  unfold Blk at h
  rw [h] at hc
  cases hc
  exact hne rfl
theorem ldoes_of {W : World} {p b1 b2 n m r : Nat} {Q : Qs} {u v : Int → Int} (o : Opl) (w : World) (h : Bo W w p b1 b2 n m r Q u v) (ho : OpF o) (hm : m < 100000) (hl : Q.length ≤ 1000) :
    Calls Try.prog 15 #[.pointer (some ⟨p, 0, none⟩), .pointer (some ⟨r, 0, none⟩), .agg (opC o).toArray] w fun e w' => e = .returned (.bool (okL Q u o == okL Q v o)) ∧ Bo W w' p b1 b2 n (m + 1) r Q (doL Q u o) (doL Q v o) ∧ ∃ X, Out (InB b2) w X ∧ DocOut W.heap.size X w' := by
  obtain ⟨g, t, c⟩ := o
  have hA : Blk (w.alloc (.cells #[.bool g, .int .u32 t, .int .u64 c] 36)) w.heap.size (opC (g, t, c)) 36 := Blk.new' rfl rfl
  have hB := h.below ((Below.refl _ w).alloc (Nat.le_refl _) (.cells #[.bool g, .int .u32 t, .int .u64 c] 36))
  have hn : w.heap.size ≠ b2 := hB.x.lp.hu.no_cells hA
  have H : Hid (FitsW t ∧ FitsQ c ∧ m < 100000 ∧ Q.length ≤ 1000) := ⟨ho.1, ho.2, hm, hl⟩
  clear ho hm hl h
  show Calls Try.prog 15 #[.pointer (some ⟨p, 0, none⟩), .pointer (some ⟨r, 0, none⟩), .agg #[.bool g, .int .u32 t, .int .u64 c]] w _
  cases g with
  | true =>
    have HB : Hid (Bo W (w.alloc (.cells #[.bool true, .int .u32 t, .int .u64 c] 36)) p b1 b2 n m r Q u v ∧ Blk (w.alloc (.cells #[.bool true, .int .u32 t, .int .u64 c] 36)) w.heap.size (opC (true, t, c)) 36 ∧ Below w.heap.size w (w.alloc (.cells #[.bool true, .int .u32 t, .int .u64 c] 36))) := ⟨hB, hA, (Below.refl _ w).alloc (Nat.le_refl _) _⟩
    clear hA hB hn
    go_enter Try.func15, Try.ntmps15
    go_upto_region 2 with fail
    generalize w.alloc (.cells #[.bool true, .int .u32 t, .int .u64 c] 36) = V at HB
    have HF : Hid (Below w.heap.size w V) := HB.out.2.2
    replace HB : Hid (_ ∧ _) := ⟨HB.out.1, HB.out.2.1⟩
    obtain ⟨q, hq⟩ : ∃ q, q = w.heap.size := ⟨_, rfl⟩
    rw [← hq] at HB ⊢
    clear hq
    have zS : V.cell? ⟨q, 1, none⟩ = some (.int .u32 t) ∧ V.cell? ⟨q, 2, none⟩ = some (.int .u64 c) := ⟨HB.out.2.cell 1, HB.out.2.cell 2⟩
    have CA := (HB.out.1.drewN 1).give H.out.1 H.out.2.1 H.out.2.2.1
    have CD : ∀ X, Bo W X p b1 b2 n (m + 1) r Q (doL Q u (true, t, c)) v → Calls Try.prog 30 #[.pointer (some ⟨r, 0, none⟩), .int .u32 t, .int .u64 c] X fun e w' => e = .returned (.bool (okL Q v (true, t, c))) ∧ Bo W w' p b1 b2 n (m + 1) r Q (doL Q u (true, t, c)) (doL Q v (true, t, c)) ∧ DocOut W.heap.size X w' := fun X hX => hX.dgive H.out.2.1 H.out.2.2.2
    generalize hk1 : okL Q u (true, t, c) = ok at CA
    generalize hk2 : okL Q v (true, t, c) = ok2 at CD
    have HK : Hid (okL Q u (true, t, c) = ok ∧ okL Q v (true, t, c) = ok2) := ⟨hk1, hk2⟩
    clear hk1 hk2
    go_region_held3 (fun X => X.cell? ⟨q, 1, none⟩ = some (.int .u32 t) ∧ X.cell? ⟨q, 2, none⟩ = some (.int .u64 c)) (first | exact zS | exact zT | exact zU)
      (first
      | (go_simp; go_at_call 23; refine CA.mono ?_; rintro e w1 ⟨rfl, h1, o1⟩; have bk1 : Blk w1 q (opC (true, t, c)) 36 := Blk.inB (m := 0) (w := V.drew) HB.out.2 HB.out.1.x.lp.hu o1; have zT : w1.cell? ⟨q, 1, none⟩ = some (.int .u32 t) ∧ w1.cell? ⟨q, 2, none⟩ = some (.int .u64 c) := ⟨bk1.cell 1, bk1.cell 2⟩)
      | (go_simp; go_at_call 30; refine (CD _ h1).mono ?_; rintro e w2 ⟨rfl, h2, o2⟩; have bk2 := bk1.doc (by decide) o2; have zU : w2.cell? ⟨q, 1, none⟩ = some (.int .u32 t) ∧ w2.cell? ⟨q, 2, none⟩ = some (.int .u64 c) := ⟨bk2.cell 1, bk2.cell 2⟩))
    all_goals go_wp2
    all_goals go_ret
    all_goals exact ⟨by rw [HK.out.1, HK.out.2]; rfl, h2, w1, (below_out (InB b2) HF.out).trans ((drewN_out (InB b2) V 1).trans o1 (fun _ e => .inl e)) (fun _ e => .inl e), o2⟩
  | false =>
    have HB : Hid (Bo W (w.alloc (.cells #[.bool false, .int .u32 t, .int .u64 c] 36)) p b1 b2 n m r Q u v ∧ Blk (w.alloc (.cells #[.bool false, .int .u32 t, .int .u64 c] 36)) w.heap.size (opC (false, t, c)) 36 ∧ Below w.heap.size w (w.alloc (.cells #[.bool false, .int .u32 t, .int .u64 c] 36))) := ⟨hB, hA, (Below.refl _ w).alloc (Nat.le_refl _) _⟩
    clear hA hB hn
    go_enter Try.func15, Try.ntmps15
    go_upto_region 3 with fail
    generalize w.alloc (.cells #[.bool false, .int .u32 t, .int .u64 c] 36) = V at HB
    have HF : Hid (Below w.heap.size w V) := HB.out.2.2
    replace HB : Hid (_ ∧ _) := ⟨HB.out.1, HB.out.2.1⟩
    obtain ⟨q, hq⟩ : ∃ q, q = w.heap.size := ⟨_, rfl⟩
    rw [← hq] at HB ⊢
    clear hq
    have zS : V.cell? ⟨q, 1, none⟩ = some (.int .u32 t) ∧ V.cell? ⟨q, 2, none⟩ = some (.int .u64 c) := ⟨HB.out.2.cell 1, HB.out.2.cell 2⟩
    have CA := (HB.out.1.drewN 1).take H.out.1 H.out.2.1 H.out.2.2.1
    have CD : ∀ X, Bo W X p b1 b2 n (m + 1) r Q (doL Q u (false, t, c)) v → Calls Try.prog 31 #[.pointer (some ⟨r, 0, none⟩), .int .u32 t, .int .u64 c] X fun e w' => e = .returned (.bool (okL Q v (false, t, c))) ∧ Bo W w' p b1 b2 n (m + 1) r Q (doL Q u (false, t, c)) (doL Q v (false, t, c)) ∧ DocOut W.heap.size X w' := fun X hX => hX.dtake H.out.2.1 H.out.2.2.2
    generalize hk1 : okL Q u (false, t, c) = ok at CA
    generalize hk2 : okL Q v (false, t, c) = ok2 at CD
    have HK : Hid (okL Q u (false, t, c) = ok ∧ okL Q v (false, t, c) = ok2) := ⟨hk1, hk2⟩
    clear hk1 hk2
    go_region_held3 (fun X => X.cell? ⟨q, 1, none⟩ = some (.int .u32 t) ∧ X.cell? ⟨q, 2, none⟩ = some (.int .u64 c)) (first | exact zS | exact zT | exact zU)
      (first
      | (go_simp; go_at_call 24; refine CA.mono ?_; rintro e w1 ⟨rfl, h1, o1⟩; have bk1 : Blk w1 q (opC (false, t, c)) 36 := Blk.inB (m := 0) (w := V.drew) HB.out.2 HB.out.1.x.lp.hu o1; have zT : w1.cell? ⟨q, 1, none⟩ = some (.int .u32 t) ∧ w1.cell? ⟨q, 2, none⟩ = some (.int .u64 c) := ⟨bk1.cell 1, bk1.cell 2⟩)
      | (go_simp; go_at_call 31; refine (CD _ h1).mono ?_; rintro e w2 ⟨rfl, h2, o2⟩; have bk2 := bk1.doc (by decide) o2; have zU : w2.cell? ⟨q, 1, none⟩ = some (.int .u32 t) ∧ w2.cell? ⟨q, 2, none⟩ = some (.int .u64 c) := ⟨bk2.cell 1, bk2.cell 2⟩))
    all_goals go_wp2
    all_goals go_ret
    all_goals exact ⟨by rw [HK.out.1, HK.out.2]; rfl, h2, w1, (below_out (InB b2) HF.out).trans ((drewN_out (InB b2) V 1).trans o1 (fun _ e => .inl e)) (fun _ e => .inl e), o2⟩
end Go.Proofs.Ytkhldjpghjmgfaa
