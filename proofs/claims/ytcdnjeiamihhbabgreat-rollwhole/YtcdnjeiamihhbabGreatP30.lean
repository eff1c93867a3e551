/- P30 -/
import Derived.Test.YtcdnjeiamihhbabGreatP29
set_option linter.unusedVariables false
set_option maxRecDepth 4000
namespace Go.Proofs.YtcdnjeiamihhbabGreat
open Go.RowKit
theorem SegP.belowB {W W' : World} {p g B : Nat} {r : Int} {L : List Int} (h : SegP W p g r L) (hb : Below B W W') (hp : p < B) (hg : g < B) : SegP W' p g r L :=
 ⟨h.hp.below hb hp, h.hg.below hb hg, h.len, h.fit⟩
theorem eachL_of (B q p g : Nat) (r : Int) (L : List Int) (a : Int) (w : World) (h : SegP w p g r L) (hp : p < B) (hg : g < B) (hl : LS B q w (listTo L a 0)) :
  Calls Tryz.prog 162 #[.pointer (some ⟨p, 0, none⟩), .int .u8 a, .func (.func 163) #[] #[.pointer (some ⟨q, 0, none⟩)]] w fun e w' => e = .returned (.tuple #[]) ∧ LS B q w' (listTo L a L.length) ∧ Below B w w' := by
 obtain ⟨N, hN⟩ : ∃ N, N = L.length := ⟨_, rfl⟩
 have c0 := h.c0
 rw [← hN] at c0
 have HS : Hid (SegP w p g r L ∧ N = L.length ∧ p < B ∧ g < B ∧ LS B q w (listTo L a 0)) := ⟨h, hN, hp, hg, hl⟩
 clear h hN hp hg hl
 go_enter Tryz.func162, Tryz.ntmps162
 go_wp2
 go_loopw [13] (fun i wr => ∃ k : Nat, i = .int .i64 k ∧ k ≤ N ∧ LS B q wr (listTo L a k) ∧ Below B w wr) (fun i wr => N - (intOf i).toNat)
 case atStart => exact ⟨0, rfl, Nat.zero_le _, HS.out.2.2.2.2, Below.refl _ _⟩
 case round =>
  obtain ⟨k, rfl, hk, hls, hbw⟩ := hrel
  have HI : Hid (LS B q wr (listTo L a k) ∧ Below B w wr) := ⟨hls, hbw⟩
  clear hls hbw
  rcases Nat.lt_or_ge k N with hlt | hge
  ·have c1 := (HS.out.1.belowB HI.out.2 HS.out.2.2.1 HS.out.2.2.2.1).at (i := k) (by rw [← HS.out.2.1]; exact hlt)
   obtain ⟨X, hX⟩ : ∃ X, X = L.getD k 0 := ⟨_, rfl⟩
   rw [← hX] at c1
   have HX : Hid (X = L.getD k 0) := hX
   have hw : IntKind.i64.wrap ((k : Int) + 1) = (k : Int) + 1 := by have := HS.out.1.len.2; have := HS.out.2.1; rw [IntKind.wrap_i64]; omega
   clear hX
   by_cases hq : X = a
   ·have HC : Hid (Calls Tryz.prog 163 #[.int .i64 k, .pointer (some ⟨q, 0, none⟩)] wr fun e w' => e = .returned (.tuple #[]) ∧ LS B q w' (listTo L a (k + 1)) ∧ Below B wr w') := by
     show Calls _ _ _ _ _
     have e1 : listTo L a (k + 1) = listTo L a k ++ [(k : Int)] := by rw [listTo_step, if_pos (by rw [← HX.out]; exact hq)]
     have e2 := listTo_length L a k
     rw [e1]
     have e3 := HS.out.1.len.2
     have e4 := HS.out.2.1
     exact gListC_of B q k _ wr HI.out.1 (by omega) (by omega)
    subst hq
    clear HX
    go_wp2_with (go_at_call 163; refine HC.out.mono ?_; rintro e w2 ⟨rfl, hl2, hb2⟩; have HJ : Hid (LS B q w2 (listTo L X (k + 1)) ∧ Below B w w2) := ⟨hl2, HI.out.2.trans hb2⟩; clear hl2 hb2)
    go_roundw
    case rel => exact ⟨k + 1, by simp, by omega, HJ.out.1, HJ.out.2⟩
    case measure => simp [intOf]; omega
   ·have e1 : listTo L a (k + 1) = listTo L a k := by rw [listTo_step, if_neg (by rw [← HX.out]; exact hq)]
    have HJ : Hid (LS B q wr (listTo L a (k + 1)) ∧ Below B w wr) := by show _ ∧ _; rw [e1]; exact HI.out
    clear e1
    go_wp2
    go_roundw
    case rel => exact ⟨k + 1, by simp, by omega, HJ.out.1, HJ.out.2⟩
    case measure => simp [intOf]; omega
  ·obtain rfl : k = N := by omega
   go_wp2
   first | go_end0 | refine bodyPost_ret (results_none rfl _ _ _) rfl ?_
   refine ⟨rfl, ?_, HI.out.2⟩
   have := HI.out.1
   rw [HS.out.2.1] at this
   exact this
def ListGot (w : World) (xs : List Int) (e : Ending) (w' : World) : Prop :=
 ∃ A c, e = .returned (.slice A xs.length c) ∧ w'.ownsRow w.heap.size 3 1 (.slice A xs.length c) xs.length (kInts .i64 xs) ∧ Below w.heap.size w w'
theorem gList_of (p g : Nat) (r : Int) (L : List Int) (a : Int) (w : World) (h : SegP w p g r L) :
  Calls Tryz.prog 106 #[.pointer (some ⟨p, 0, none⟩), .int .u8 a] w fun e w' => ListGot w (listZ L a) e w' := by
 have hq : Blk (w.alloc (.cells #[.slice none 0 0] 38)) w.heap.size [.slice none 0 0] 38 := Blk.new' rfl rfl
 have hb0 : Below w.heap.size w (w.alloc (.cells #[.slice none 0 0] 38)) := (Below.refl _ _).alloc (Nat.le_refl _) _
 have hls : LS w.heap.size w.heap.size (w.alloc (.cells #[.slice none 0 0] 38)) (listTo L a 0) := ⟨none, 0, hq, World.ownsRow_nil _ _ _ _, Nat.le_refl _, by simp⟩
 have hc := eachL_of w.heap.size w.heap.size p g r L a _ (h.belowB hb0 h.lt.1 h.lt.2) h.lt.1 h.lt.2 hls
 have HC : Hid (Calls Tryz.prog 162 #[.pointer (some ⟨p, 0, none⟩), .int .u8 a, .func (.func 163) #[] #[.pointer (some ⟨w.heap.size, 0, none⟩)]] (w.alloc (.cells #[.slice none 0 0] 38)) fun e w' => e = .returned (.tuple #[]) ∧ LS w.heap.size w.heap.size w' (listTo L a L.length) ∧ Below w.heap.size (w.alloc (.cells #[.slice none 0 0] 38)) w') := hc
 have HB : Hid (Below w.heap.size w (w.alloc (.cells #[.slice none 0 0] 38))) := hb0
 clear hq hb0 hls hc h
 go_enter Tryz.func106, Tryz.ntmps106
 go_wp2_with (go_at_call 162; refine HC.out.mono ?_; rintro e w2 ⟨rfl, ⟨A, c, l1, l2, l3, l4⟩, hb2⟩; have c2 : w2.cell? ⟨w.heap.size, 0, none⟩ = some (.slice A (listTo L a L.length).length c) := l1.cell 0; have HJ : Hid (w2.ownsRow w.heap.size 3 1 (.slice A (listTo L a L.length).length c) (listTo L a L.length).length (kInts .i64 (listTo L a L.length)) ∧ Below w.heap.size w w2) := ⟨l2, HB.out.trans hb2⟩; clear l1 l2 l3 l4 hb2)
 go_ret
 exact ⟨A, c, rfl, HJ.out.1, HJ.out.2⟩

def fillZ (N k : Nat) : List Int := (newZ N).take k ++ List.replicate (N - k) 0
theorem fill_length {N k : Nat} (h : 2 ≤ N) (hk : k ≤ N) : (fillZ N k).length = N := by
 unfold fillZ; rw [List.length_append, List.length_take, newZ_length h, List.length_replicate]; omega
theorem newZ_at {N k : Nat} (h : k < N) (h2 : 2 ≤ N) : (newZ N)[k]? = some (if k < 2 then 4 else 1) := by
 unfold newZ
 match k, h with
 | 0, _ => rfl
 | 1, _ => rfl
 | k + 2, h =>
  rw [List.getElem?_cons_succ, List.getElem?_cons_succ, List.getElem?_replicate, if_pos (by omega), if_neg (by omega)]
theorem fill_step {N k : Nat} (h : k < N) (h2 : 2 ≤ N) : (fillZ N k).set k (if k < 2 then 4 else 1) = fillZ N (k + 1) := by
 unfold fillZ
 have hl : ((newZ N).take k).length = k := by rw [List.length_take, newZ_length h2]; omega
 rw [take_snoc (newZ_at h h2), List.set_append_right _ _ (by omega), hl, Nat.sub_self]
 obtain ⟨m, hm⟩ : ∃ m, N - k = m + 1 := ⟨N - k - 1, by omega⟩
 have hm' : N - (k + 1) = m := by omega
 rw [hm, hm', List.replicate_succ, List.set_cons_zero, List.append_assoc]; rfl
theorem fill_all (N : Nat) (h2 : 2 ≤ N) : fillZ N N = newZ N := by
 unfold fillZ
 rw [Nat.sub_self, List.replicate_zero, List.append_nil, List.take_of_length_le (by rw [newZ_length h2]; omega)]
theorem fill_none (N : Nat) : fillZ N 0 = List.replicate N 0 := by simp [fillZ]
theorem newZ_fit (N : Nat) : ∀ x ∈ newZ N, x = 4 ∨ x = 1 := by
 intro x hx
 simp only [newZ, List.mem_cons, List.mem_replicate] at hx
 omega
theorem fill_fit (N k : Nat) : ∀ x ∈ fillZ N k, Fits8 x := by
 intro x hx
 unfold fillZ at hx
 rw [List.mem_append, List.mem_replicate] at hx
 unfold Fits8
 rcases hx with hx | hx
 ·have := newZ_fit N x (List.mem_of_mem_take hx); omega
 ·omega
def NewGot (w : World) (s : Sh) (e : Ending) (w' : World) : Prop :=
 (¬ RightS s ∧ e = .returned (.pointer none) ∧ Below w.heap.size w w') ∨
 (RightS s ∧ ∃ p g, e = .returned (.pointer (some ⟨p, 0, none⟩)) ∧ SegP w' p g s.r (newZ s.z.toNat) ∧ w.heap.size ≤ p ∧ w.heap.size ≤ g ∧ Below w.heap.size w w')
theorem gNew_of (s : Sh) (w : World) (hz : -9223372036854775808 ≤ s.z) :
  Calls Tryz.prog 64 #[.agg (shL s).toArray] w fun e w' => NewGot w s e w' := by
 have hr := right_of s (w.alloc (.cells (shL s).toArray 23)) hz
 obtain ⟨z, zb, b, r⟩ := s
 obtain ⟨W, hW⟩ : ∃ W, W = w.alloc (.cells (shL ⟨z, zb, b, r⟩).toArray 23) := ⟨_, rfl⟩
 have bw : Below w.heap.size w W := by rw [hW]; exact (Below.refl _ _).alloc (Nat.le_refl _) _
 have hs : W.heap.size = w.heap.size + 1 := by rw [hW]; simp
 have hbk : Blk W w.heap.size (shL ⟨z, zb, b, r⟩) 23 := by rw [hW]; exact Blk.new' rfl rfl
 rw [← hW] at hr
 have HH : Hid (Below w.heap.size w W ∧ W.heap.size = w.heap.size + 1 ∧ Blk W w.heap.size (shL ⟨z, zb, b, r⟩) 23) := ⟨bw, hs, hbk⟩
 have HW : Hid (W = w.alloc (.cells (shL ⟨z, zb, b, r⟩).toArray 23)) := hW
 by_cases hR : RightS ⟨z, zb, b, r⟩
 ·rw [decide_eq_true hR] at hr
  have HR : Hid (Calls Tryz.prog 60 #[.agg (shL ⟨z, zb, b, r⟩).toArray] W fun e w' => e = .returned (.bool true) ∧ Below W.heap.size W w') := hr
  have HQ : Hid (RightS ⟨z, zb, b, r⟩) := hR
  clear hr hR hbk hs bw hW hz
  simp only [shL] at *
  go_enter Tryz.func64, Tryz.ntmps64
  go_upto_region 3 with (go_at_call 60; rw [← HW.out]; refine HR.out.mono ?_; rintro e w1 ⟨rfl, hb1⟩)
  have hw1 : Blk w1 w.heap.size [.int .i64 z, .int .i64 zb, .int .i64 b, .int .i64 r] 23 := HH.out.2.2.below hb1 (by have := HH.out.2.1; omega)
  have c0 : w1.cell? ⟨w.heap.size, 0, none⟩ = some (.int .i64 z) := hw1.cell 0
  have c3 : w1.cell? ⟨w.heap.size, 3, none⟩ = some (.int .i64 r) := hw1.cell 3
  obtain ⟨N, hN⟩ : ∃ N : Nat, z = N := ⟨z.toNat, by have := HQ.out.1; simp only at this; omega⟩
  have hN1 : 6 ≤ N ∧ N ≤ 256 := by have := HQ.out.1; have := HQ.out.2.1; simp only at *; omega
  have c3' : (w1.alloc (.cells (madeCells #[.int .u8 0] N) 5)).cell? ⟨w.heap.size, 3, none⟩ = some (.int .i64 r) := (hw1.alloc _).cell 3
  clear hw1
  subst hN
  have hmk := run_make_row' (P := Tryz.prog) 51 5 (.int .u8 0) 1 Tryz.underlying51 Tryz.zero_u8 rfl .i64 .i64 N (by omega) (by omega)
  go_region
  have hmade := made_bytes N w1
  have hV0 : SegP ((w1.alloc (.cells (madeCells #[.int .u8 0] N) 5)).alloc (.cells #[.slice (some ⟨w1.heap.size, 0, none⟩) N N, .int .i64 r] 191)).drew (w1.heap.size + 1) w1.heap.size r (fillZ N 0) := by
   have e0 := fill_length (N := N) (k := 0) (by omega) (Nat.zero_le _)
   refine ⟨?_, ?_, by rw [e0]; omega, fill_fit N 0⟩
   ·rw [e0]; exact (Blk.new' (by simp) rfl).drew
   ·rw [fill_none]; exact (hmade.alloc _).drew
  have hlo : w.heap.size ≤ w1.heap.size := by have := hb1.size; have := HH.out.2.1; omega
  have hVb : Below w.heap.size w ((w1.alloc (.cells (madeCells #[.int .u8 0] N) 5)).alloc (.cells #[.slice (some ⟨w1.heap.size, 0, none⟩) N N, .int .i64 r] 191)).drew :=
   (((HH.out.1.trans (below_less hb1 (by have := HH.out.2.1; omega))).alloc hlo _).alloc (by simp; omega) _).drew
  generalize hV : World.drew _ = V at hV0 hVb ⊢
  generalize hq : w1.heap.size = q at hV0 hlo ⊢
  have HV : Hid (SegP V (q + 1) q r (fillZ N 0) ∧ w.heap.size ≤ q ∧ Below w.heap.size w V) := ⟨hV0, hlo, hVb⟩
  have c4 : V.cell? ⟨q + 1, 0, none⟩ = some (.slice (some ⟨q, 0, none⟩) N N) := by have := hV0.c0; rwa [fill_length (by omega) (Nat.zero_le _)] at this
  clear hV hq hV0 hlo hVb hmade hmk c0 c3 c3' hb1
  go_wp2
  go_loopw [20] (fun i wr => ∃ k : Nat, i = .int .i64 k ∧ k ≤ N ∧ SegP wr (q + 1) q r (fillZ N k) ∧ Below w.heap.size w wr) (fun i wr => N - (intOf i).toNat)
  case atStart => exact ⟨0, rfl, Nat.zero_le _, HV.out.1, HV.out.2.2⟩
  case round =>
   obtain ⟨k, rfl, hk, hsg, hbw⟩ := hrel
   have HI : Hid (SegP wr (q + 1) q r (fillZ N k) ∧ Below w.heap.size w wr) := ⟨hsg, hbw⟩
   have hfl := fill_length (N := N) (k := k) (by omega) hk
   have d0 := hsg.c0
   rw [hfl] at d0
   rcases Nat.lt_or_ge k N with hlt | hge
   ·have d1 := hsg.at (i := k) (by rw [hfl]; exact hlt)
    have d2 := hsg.free k
    have hst := fun (b : Int) (hb : Fits8 b) => hsg.set k hb
    have hw : IntKind.i64.wrap ((k : Int) + 1) = (k : Int) + 1 := by rw [IntKind.wrap_i64]; omega
    generalize (fillZ N k).getD k 0 = X at d1
    have HT : Hid (∀ b : Int, Fits8 b → b = (if k < 2 then 4 else 1) → SegP (wr.setCell ⟨q, k, none⟩ (.int .u8 b)) (q + 1) q r (fillZ N (k + 1)) ∧ Below w.heap.size w (wr.setCell ⟨q, k, none⟩ (.int .u8 b))) := by
     intro b hb hbe
     have := hst b hb
     rw [hbe, fill_step hlt (by omega)] at this
     rw [hbe]
     exact ⟨this, hbw.setCell (by exact HV.out.2.1) _⟩
    clear hst hsg hbw hfl
    by_cases h2 : k < 2
    ·have h2' : (k : Int) < 2 := by omega
     have H2 : Hid (k < 2) := h2
     clear h2
     go_wp2
     go_roundw
     case rel => exact ⟨k + 1, by simp, by omega, (HT.out 4 (by unfold Fits8; omega) (by rw [if_pos H2.out])).1, (HT.out 4 (by unfold Fits8; omega) (by rw [if_pos H2.out])).2⟩
     case measure => simp [intOf]; omega
    ·have h2' : ¬ (k : Int) < 2 := by omega
     have H2 : Hid (¬ k < 2) := h2
     clear h2
     go_wp2
     go_roundw
     case rel => exact ⟨k + 1, by simp, by omega, (HT.out 1 (by unfold Fits8; omega) (by rw [if_neg H2.out])).1, (HT.out 1 (by unfold Fits8; omega) (by rw [if_neg H2.out])).2⟩
     case measure => simp [intOf]; omega
   ·obtain rfl : k = N := by omega
    clear hsg hbw hfl
    go_wp2
    go_ret
    refine .inr ⟨HQ.out, q + 1, q, rfl, ?_, by have := HV.out.2.1; omega, HV.out.2.1, HI.out.2⟩
    have := HI.out.1
    rw [fill_all _ (by omega)] at this
    exact this
 ·rw [decide_eq_false hR] at hr
  have HR : Hid (Calls Tryz.prog 60 #[.agg (shL ⟨z, zb, b, r⟩).toArray] W fun e w' => e = .returned (.bool false) ∧ Below W.heap.size W w') := hr
  have HQ : Hid (¬ RightS ⟨z, zb, b, r⟩) := hR
  clear hr hR hbk hs bw hW hz
  simp only [shL] at *
  go_enter Tryz.func64, Tryz.ntmps64
  go_wp2_with (go_at_call 60; rw [← HW.out]; refine HR.out.mono ?_; rintro e w1 ⟨rfl, hb1⟩)
  go_ret
  exact .inl ⟨HQ.out, rfl, HH.out.1.trans (below_less hb1 (by have := HH.out.2.1; omega))⟩


section
section
variable {W W' : World} {p g c : Nat} {s : Sh} {L : List Int} {O : Nat → Prop}
end
end


end Go.Proofs.YtcdnjeiamihhbabGreat
namespace Go.Proofs.YtcdnjeiamihhbabGreat
theorem ltP_not (x y : Pr) : ltP x y = false ↔ ¬ (x.1 < y.1 ∨ (x.1 = y.1 ∧ x.2 < y.2)) := by unfold ltP; simp
theorem pr_ne {x y : Pr} : x ≠ y ↔ (x.1 ≠ y.1 ∨ x.2 ≠ y.2) := by
 obtain ⟨a, b⟩ := x
 obtain ⟨c, d⟩ := y
 simp only [ne_eq, Prod.mk.injEq]
 omega
theorem pr_eq {x y : Pr} : x = y ↔ (x.1 = y.1 ∧ x.2 = y.2) := by
 obtain ⟨a, b⟩ := x
 obtain ⟨c, d⟩ := y
 simp
theorem ltP_irrefl (x : Pr) : ltP x x = false := by rw [ltP_not]; omega
theorem ltP_trans {x y z : Pr} (h : ltP x y = true) (k : ltP y z = true) : ltP x z = true := by rw [ltP_iff] at *; omega
theorem ltP_asymm {x y : Pr} (h : ltP x y = true) : ltP y x = false := by rw [ltP_iff] at h; rw [ltP_not]; omega
theorem ltP_ne {x y : Pr} (h : ltP x y = true) : x ≠ y := by rintro rfl; rw [ltP_irrefl] at h; cases h
theorem ltP_total {x y : Pr} (h : x ≠ y) (k : ltP x y = false) : ltP y x = true := by rw [ltP_not] at k; rw [ltP_iff]; rw [pr_ne] at h; omega
theorem ltP_anti {x y : Pr} (h : ltP x y = false) (k : ltP y x = false) : x = y := by
 by_cases e : x = y
 ·exact e
 ·rw [ltP_total e h] at k; cases k
/-- All places there are: rising by names, no two at one place. -/
structure Good (S : List Pl) : Prop where
 up : S.Pairwise (fun p q => ltP p.1 q.1 = true)
 apart : S.Pairwise (fun p q => p.2 ≠ q.2)
 fits : ∀ p ∈ S, FitsP p
theorem good_nil : Good [] := ⟨.nil, .nil, by simp⟩
theorem eq_of_pairwise {α β : Type} (f : α → β) : ∀ {l : List α}, l.Pairwise (fun p q => f p ≠ f q) → ∀ {p q : α}, p ∈ l → q ∈ l → f p = f q → p = q
 | [], _, _, _, hp, _, _ => by simp at hp
 | a :: r, h, p, q, hp, hq, e => by
  obtain ⟨h1, h2⟩ := List.pairwise_cons.1 h
  rcases List.mem_cons.1 hp with e1 | hp1
  ·rcases List.mem_cons.1 hq with e2 | hq1
   ·rw [e1, e2]
   ·exact absurd (e1 ▸ e) (h1 q hq1)
  ·rcases List.mem_cons.1 hq with e2 | hq1
   ·exact absurd (e2 ▸ e.symm) (h1 p hp1)
   ·exact eq_of_pairwise f h2 hp1 hq1 e
theorem Good.names {S : List Pl} (h : Good S) : S.Pairwise (fun p q => p.1 ≠ q.1) := h.up.imp (fun h => ltP_ne h)
theorem Good.one_name {S : List Pl} (h : Good S) {p q : Pl} (hp : p ∈ S) (hq : q ∈ S) (e : p.1 = q.1) : p = q := eq_of_pairwise (fun p : Pl => p.1) h.names hp hq e
theorem Good.one_spot {S : List Pl} (h : Good S) {p q : Pl} (hp : p ∈ S) (hq : q ∈ S) (e : p.2 = q.2) : p = q := eq_of_pairwise (fun p : Pl => p.2) h.apart hp hq e
/-! Where a block is; what is at a place. -/
def getS (S : List Pl) (n : Pr) : Option Pr := (S.find? (fun p => p.1 == n)).map (·.2)
def atS (S : List Pl) (s : Pr) : Option Pr := (S.find? (fun p => p.2 == s)).map (·.1)
theorem getS_some {S : List Pl} (h : Good S) {n s : Pr} : getS S n = some s ↔ (n, s) ∈ S := by
 unfold getS
 constructor
 ·intro e
  obtain ⟨p, hp, rfl⟩ := Option.map_eq_some_iff.1 e
  have h1 := List.find?_some hp
  have h2 := List.mem_of_find?_eq_some hp
  have : p.1 = n := by simpa using h1
  rw [← this]; exact h2
 ·intro hm
  obtain ⟨p, hp⟩ : ∃ p, S.find? (fun p => p.1 == n) = some p := by
   rw [← Option.isSome_iff_exists, List.find?_isSome]
   exact ⟨_, hm, by simp⟩
  rw [hp]
  have h1 := List.find?_some hp
  have h2 := List.mem_of_find?_eq_some hp
  have h3 : p.1 = n := by simpa using h1
  rw [h.one_name h2 hm h3]
  rfl
theorem getS_none {S : List Pl} {n : Pr} : getS S n = none ↔ ∀ s, (n, s) ∉ S := by
 unfold getS
 rw [Option.map_eq_none_iff, List.find?_eq_none]
 constructor
 ·intro h s hm; exact h _ hm (by simp)
 ·intro h p hp e
  have : p.1 = n := by simpa using e
  exact h p.2 (by rw [← this]; exact hp)
theorem atS_some {S : List Pl} (h : Good S) {n s : Pr} : atS S s = some n ↔ (n, s) ∈ S := by
 unfold atS
 constructor
 ·intro e
  obtain ⟨p, hp, rfl⟩ := Option.map_eq_some_iff.1 e
  have h1 := List.find?_some hp
  have h2 := List.mem_of_find?_eq_some hp
  have : p.2 = s := by simpa using h1
  rw [← this]; exact h2
 ·intro hm
  obtain ⟨p, hp⟩ : ∃ p, S.find? (fun p => p.2 == s) = some p := by
   rw [← Option.isSome_iff_exists, List.find?_isSome]
   exact ⟨_, hm, by simp⟩
  rw [hp]
  have h1 := List.find?_some hp
  have h2 := List.mem_of_find?_eq_some hp
  have h3 : p.2 = s := by simpa using h1
  rw [h.one_spot h2 hm h3]
  rfl
theorem atS_none {S : List Pl} {s : Pr} : atS S s = none ↔ ∀ n, (n, s) ∉ S := by
 unfold atS
 rw [Option.map_eq_none_iff, List.find?_eq_none]
 constructor
 ·intro h n hm; exact h _ hm (by simp)
 ·intro h p hp e
  have : p.2 = s := by simpa using e
  exact h p.1 (by rw [← this]; exact hp)
/-! Dropping. -/
def dropS (S : List Pl) (n : Pr) : List Pl := S.filter (fun p => p.1 != n)
theorem mem_dropS {S : List Pl} {n : Pr} {p : Pl} : p ∈ dropS S n ↔ p ∈ S ∧ p.1 ≠ n := by unfold dropS; simp [List.mem_filter]
theorem Good.filter {S : List Pl} (h : Good S) (f : Pl → Bool) : Good (S.filter f) := ⟨h.up.filter _, h.apart.filter _, fun p hp => h.fits p (List.mem_filter.1 hp).1⟩
theorem Good.drop {S : List Pl} (h : Good S) (n : Pr) : Good (dropS S n) := h.filter _
theorem drop_none {S : List Pl} {n : Pr} (h : getS S n = none) : dropS S n = S := by
 unfold dropS
 rw [List.filter_eq_self]
 intro p hp
 have := getS_none.1 h p.2
 simp only [bne_iff_ne, ne_eq]
 intro e
 exact this (by rw [← e]; exact hp)
/-! Putting, as the document does it: one after the other. -/
def putStep (p : Pl) (s : List Pl × Bool) (x : Pl) : List Pl × Bool :=
 (s.1 ++ ((if !s.2 && (ltP p.1 x.1 || x.1 == p.1) then [p] else []) ++ (if !(x.1 == p.1) && (x.2 != p.2) then [x] else [])), s.2 || (ltP p.1 x.1 || x.1 == p.1))
def putAll (p : Pl) (S : List Pl) : List Pl × Bool := S.foldl (putStep p) ([], false)
def putS (S : List Pl) (p : Pl) : List Pl := if (putAll p S).2 then (putAll p S).1 else (putAll p S).1 ++ [p]
def keepB (p x : Pl) : Bool := !(x.1 == p.1) && (x.2 != p.2)
def insN (p : Pl) : List Pl → List Pl
 | [] => [p]
 | q :: r => if ltP p.1 q.1 then p :: q :: r else q :: insN p r
theorem insN_perm (p : Pl) : ∀ L : List Pl, (insN p L).Perm (p :: L)
 | [] => .refl _
 | q :: r => by
  unfold insN
  split
  ·exact .refl _
  ·exact ((insN_perm p r).cons q).trans (List.Perm.swap p q r)
theorem insN_up (p : Pl) : ∀ L : List Pl, L.Pairwise (fun p q => ltP p.1 q.1 = true) → (∀ q ∈ L, q.1 ≠ p.1) → (insN p L).Pairwise (fun p q => ltP p.1 q.1 = true)
 | [], _, _ => by simp [insN]
 | q :: r, h, hn => by
  obtain ⟨h1, h2⟩ := List.pairwise_cons.1 h
  unfold insN
  split
  ·rename_i hb
   refine List.pairwise_cons.2 ⟨fun x hx => ?_, h⟩
   rcases List.mem_cons.1 hx with rfl | hx
   ·exact hb
   ·exact ltP_trans hb (h1 x hx)
  ·rename_i hb
   have hqp : ltP q.1 p.1 = true := ltP_total (hn q (by simp)).symm (by simpa using hb)
   refine List.pairwise_cons.2 ⟨fun x hx => ?_, insN_up p r h2 (fun x hx => hn x (by simp [hx]))⟩
   rcases List.mem_cons.1 ((insN_perm p r).mem_iff.1 hx) with rfl | hx
   ·exact hqp
   ·exact h1 x hx
theorem put_done (p : Pl) : ∀ (S : List Pl) (o : List Pl), S.foldl (putStep p) (o, true) = (o ++ S.filter (keepB p), true)
 | [], o => by simp
 | x :: r, o => by
  rw [List.foldl_cons]
  have : putStep p (o, true) x = (o ++ (if keepB p x then [x] else []), true) := by simp [putStep, keepB]
  rw [this, put_done p r]
  by_cases h : keepB p x = true
  ·simp [h]
  ·simp [h]
theorem put_go (p : Pl) : ∀ (S : List Pl) (o : List Pl), S.Pairwise (fun p q => ltP p.1 q.1 = true) →
  (if (S.foldl (putStep p) (o, false)).2 then (S.foldl (putStep p) (o, false)).1 else (S.foldl (putStep p) (o, false)).1 ++ [p]) = o ++ insN p (S.filter (keepB p))
 | [], o, _ => by simp [insN]
 | x :: r, o, h => by
  obtain ⟨h1, h2⟩ := List.pairwise_cons.1 h
  rw [List.foldl_cons]
  by_cases hd : (ltP p.1 x.1 || x.1 == p.1) = true
  ·have : putStep p (o, false) x = (o ++ ([p] ++ (if keepB p x then [x] else [])), true) := by simp [putStep, keepB, hd]
   rw [this, put_done p r]
   have hall : ∀ q ∈ r, ltP p.1 q.1 = true := by
    intro q hq
    have hxq := h1 q hq
    simp only [Bool.or_eq_true, beq_iff_eq] at hd
    rcases hd with hd | hd
    ·exact ltP_trans hd hxq
    ·rw [← hd]; exact hxq
   have hins : ∀ L : List Pl, (∀ q ∈ L, ltP p.1 q.1 = true) → insN p L = p :: L := by
    intro L hL
    cases L with
    | nil => rfl
    | cons q t => unfold insN; rw [if_pos (hL q (by simp))]
   by_cases hk : keepB p x = true
   ·have hx : ltP p.1 x.1 = true := by
     simp only [Bool.or_eq_true, beq_iff_eq] at hd
     rcases hd with hd | hd
     ·exact hd
     ·simp [keepB, hd] at hk
    rw [List.filter_cons_of_pos hk, hins _ (by
     intro q hq
     rcases List.mem_cons.1 hq with rfl | hq
     ·exact hx
     ·exact hall q (List.mem_filter.1 hq).1)]
    simp [hk]
   ·rw [List.filter_cons_of_neg hk, hins _ (fun q hq => hall q (List.mem_filter.1 hq).1)]
    simp [hk]
  ·have hd' : (ltP p.1 x.1 || x.1 == p.1) = false := by simpa using hd
   have : putStep p (o, false) x = (o ++ (if keepB p x then [x] else []), false) := by simp [putStep, keepB, hd']
   rw [this, put_go p r _ h2]
   have hnl : ltP p.1 x.1 = false := (Bool.or_eq_false_iff.1 hd').1
   by_cases hk : keepB p x = true
   ·rw [List.filter_cons_of_pos hk]
    simp [hk, insN, hnl]
   ·rw [List.filter_cons_of_neg hk]
    simp [hk]
theorem putS_eq {S : List Pl} (h : Good S) (p : Pl) : putS S p = insN p (S.filter (keepB p)) := by
 have := put_go p S [] h.up
 unfold putS putAll
 simpa using this
theorem mem_putS {S : List Pl} (h : Good S) {p q : Pl} : q ∈ putS S p ↔ q = p ∨ (q ∈ S ∧ q.1 ≠ p.1 ∧ q.2 ≠ p.2) := by
 rw [putS_eq h, (insN_perm p _).mem_iff, List.mem_cons, List.mem_filter]
 simp [keepB]
theorem Good.put {S : List Pl} (h : Good S) {p : Pl} (hp : FitsP p) : Good (putS S p) := by
 have hf := h.filter (keepB p)
 refine ⟨?_, ?_, fun q hq => ?_⟩
 ·rw [putS_eq h]
  refine insN_up p _ hf.up (fun q hq => ?_)
  have := (List.mem_filter.1 hq).2
  simp [keepB] at this
  exact this.1
 ·rw [putS_eq h]
  refine ((insN_perm p _).pairwise_iff (fun {a b} (hn : a.2 ≠ b.2) => hn.symm)).2 (List.pairwise_cons.2 ⟨fun q hq => ?_, hf.apart⟩)
  have := (List.mem_filter.1 hq).2
  simp [keepB] at this
  exact fun e => this.2 e.symm
 ·rcases (mem_putS h).1 hq with rfl | h'
  ·exact hp
  ·exact h.fits q h'.1
theorem putS_len {S : List Pl} (h : Good S) (p : Pl) : (putS S p).length ≤ S.length + 1 := by
 rw [putS_eq h, (insN_perm p _).length_eq, List.length_cons]
 exact Nat.succ_le_succ (List.length_filter_le _ _)
/-! How many blocks a tenant has; a zone's blocks. -/
/-- What was collected of a list in which no two are one. -/
theorem perm_of_mem {α : Type} [DecidableEq α] {l l' : List α} (h : l.Nodup) (h' : l'.Nodup) (hm : ∀ x, x ∈ l ↔ x ∈ l') : l.Perm l' := by
 rw [List.perm_iff_count]
 intro x
 rw [h.count, h'.count]
 by_cases hx : x ∈ l
 ·rw [if_pos hx, if_pos ((hm x).1 hx)]
 ·rw [if_neg hx, if_neg (fun h => hx ((hm x).2 h))]
end Go.Proofs.YtcdnjeiamihhbabGreat
namespace Go.Proofs.YtcdnjeiamihhbabGreat
open Go.RowKit
theorem below_drew {B : Nat} {a w : World} (h : Below B a w) : Below B a w.drew := ⟨h.os, h.tape, h.output, h.size, h.block⟩
theorem below_then {B : Nat} {a b c : World} (h : Below B a b) (k : Below b.heap.size b c) (hB : B ≤ b.heap.size) : Below B a c :=
 ⟨k.os.trans h.os, k.tape.trans h.tape, k.output.trans h.output, Nat.le_trans h.size k.size, fun i hi => (k.block i (by omega)).trans (h.block i hi)⟩
theorem below_on {a b c : World} (h : Below a.heap.size a b) (k : Below b.heap.size b c) : Below a.heap.size a c := below_then h k h.size
/-! ### All but the blocks of a set lie as they lay -/
end Go.Proofs.YtcdnjeiamihhbabGreat
