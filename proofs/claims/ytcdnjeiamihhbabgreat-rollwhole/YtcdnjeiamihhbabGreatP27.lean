/- P27 -/
import Derived.Test.YtcdnjeiamihhbabGreatP26
set_option linter.unusedVariables false
set_option maxRecDepth 4000
namespace Go.Proofs.YtcdnjeiamihhbabGreat
open Go.RowKit
section
/-! ### Items in a row of the call's own -/
def itC (xs : List It) : List Value := xs.flatMap itL
theorem itC_length (xs : List It) : (itC xs).length = xs.length * 5 := by
 induction xs with
 | nil => rfl
 | cons x xs ih => unfold itC at *; simp only [List.flatMap_cons, List.length_append, ih, List.length_cons]; simp [itL]; omega
theorem itC_snoc (xs : List It) (x : It) : itC xs ++ itL x = itC (xs ++ [x]) := by simp [itC]
theorem itC_get : ∀ (xs : List It) (i : Nat) (x : It) (j : Nat), xs[i]? = some x → j < 5 → (itC xs)[i * 5 + j]? = (itL x)[j]?
 | [], i, x, j, h, _ => by simp at h
 | y :: xs, 0, x, j, h, hj => by
  simp at h; subst h
  unfold itC
  rw [List.flatMap_cons, List.getElem?_append_left (by simp [itL]; omega)]
  simp
 | y :: xs, i + 1, x, j, h, hj => by
  have ih := itC_get xs i x j (by simpa using h) hj
  unfold itC at *
  rw [List.flatMap_cons, List.getElem?_append_right (by simp [itL]; omega), ← ih]
  congr 1
  simp [itL]
  omega
theorem Tryz.zero_item : (Tryz.prog.info? 50).map (fun i => (i.zero, i.size, i.bytes)) = some (some (.agg #[.int .u32 0, .int .u64 0, .int .u8 0, .int .u32 0, .int .u16 0]), 5, 32) := by kernel_rfl
theorem itL_one (x : It) : ∀ v ∈ itL x, v.oneCell' = true := by intro v hv; simp only [itL, List.mem_cons, List.not_mem_nil, or_false] at hv; rcases hv with rfl | rfl | rfl | rfl | rfl <;> rfl
theorem own_its {W : World} {base : Nat} {a : Option Addr} {n c : Nat} {xs : List It} (h : W.ownsRow base 50 5 (.slice a n c) n (itC xs)) (hm : n ≤ maxLen) (hf : ∀ x ∈ xs, x.Fits) : ItsIn W a n xs := by
 have hl : xs.length = n := by have := h.1; rw [itC_length] at this; omega
 refine ⟨hl, hm, hf, ?_⟩
 rcases h.2 with ⟨hv, hn⟩ | ⟨g, cap, cur, hv, hb, hg, hc, hcm, hsz, htake⟩
 ·exact .inl hn
 ·cases hv
  refine .inr ⟨g, 0, rfl, fun i x hx j v hv => ?_⟩
  have hj : j < 5 := (List.getElem?_eq_some_iff.1 hv).1
  have hi := (List.getElem?_eq_some_iff.1 hx).1
  have hcl := h.cells (g := g) rfl (i * 5 + j) v (by rw [itC_get xs i x j hx hj]; exact hv)
  rw [Addr.add_mid] at hcl
  rw [Nat.add_assoc]
  exact hcl
theorem app_item {W : World} {base : Nat} {a : Option Addr} {n c : Nat} {xs : List It} (h : W.ownsRow base 50 5 (.slice a n c) n (itC xs)) (x : It) (hle : n + 1 ≤ 100000) (hb : base ≤ W.heap.size) :
  ∃ a' c' w', (Builtin.append_ #[45, 45] 45 #[.slice a n c, .slice (some ⟨W.heap.size, 0, none⟩) 1 1]).run Tryz.prog (W.alloc (.cells #[.int .u32 x.t, .int .u64 x.b, .int .u8 x.k, .int .u32 x.s, .int .u16 x.e] 50)) = .ok (.slice a' (n + 1) c') w' ∧ w'.ownsRow base 50 5 (.slice a' (n + 1) c') (n + 1) (itC (xs ++ [x])) ∧ Below base W w' := by
 obtain ⟨i0, hi, hz0, hz1, hz2⟩ := info_parts Tryz.zero_item
 obtain ⟨v', w', hrun, hown', hgrow, _⟩ := run_append_own (P := Tryz.prog) (W.alloc (.cells (itL x).toArray 50)) base 45 45 50 i0 _ 5 32 Tryz.underlying45 hi hz0 hz1 hz2 rfl (by decide) _ n (itC xs) (h.alloc _) ⟨W.heap.size, 0, none⟩ 1 1 (itL x) rfl (by
  intro j u hj
  rw [Addr.add_mid, Nat.zero_add, World.cell?_alloc_mark]
  simpa using hj) (itL_one x) (by unfold maxLen; omega) (by omega) (by simp; omega)
 rw [itC_snoc] at hown'
 obtain ⟨a', c', rfl⟩ : ∃ a' c', v' = .slice a' (n + 1) c' := by
  rcases hown'.2 with ⟨hv, hn⟩ | ⟨g, cap, cur, hv, _⟩
  ·omega
  ·exact ⟨_, _, hv⟩
 exact ⟨a', c', w', hrun, hown', ((Below.refl base W).alloc hb _).grown hgrow (by simp; omega) (fun k hk => (h.lt k hk).1)⟩
theorem citem_of (b c : Nat) (x : It) (w : World) (c0 : w.cell? ⟨b, 0, none⟩ = some (.int .u64 x.t)) (c1 : w.cell? ⟨b, 1, none⟩ = some (.int .u64 x.b)) (c2 : w.cell? ⟨b, 2, none⟩ = some (.int .u64 x.k)) (c3 : w.cell? ⟨b, 3, none⟩ = some (.int .u64 x.s)) (c4 : w.cell? ⟨b, 4, none⟩ = some (.int .u64 x.e)) (hr : x.Fits) :
  Calls Tryz.prog 170 #[.slice (some ⟨b, 0, none⟩) 5 c] w fun e w' => e = .returned (.agg #[.int .u32 x.t, .int .u64 x.b, .int .u8 x.k, .int .u32 x.s, .int .u16 x.e]) ∧ Below w.heap.size w w' := item_of b c x w c0 c1 c2 c3 c4 hr
/-! ### The state between two items -/
structure RdSt (q : Nat) (w wr : World) (q5 : Nat) (seq : Int) (A : Option Addr) (i C : Nat) (xs : List It) (L : Option Addr) (m c : Nat) (ys : List Int) : Prop where
 res : Blk wr q [.int .u64 0, .slice none 0 0] 47
 left : Blk wr (q + 1) [.slice L m c] 248
 rc : Blk wr q5 [.int .u64 seq, .slice A i C] 47
 own : wr.ownsRow (q5 + 1) 50 5 (.slice A i C) i (itC xs)
 bin : BIn w L m ys
 nil : L = none → m = 0 ∧ c = 0
 cap : m ≤ c
 bel : Below q w wr
 lt : q + 2 ≤ q5
 heap : q = w.heap.size
section
variable {q : Nat} {w wr w' : World} {q5 : Nat} {seq : Int} {A : Option Addr} {i C : Nat} {xs : List It} {L : Option Addr} {m c : Nat} {ys : List Int}
theorem RdSt.below (h : RdSt q w wr q5 seq A i C xs L m c ys) (hb : Below wr.heap.size wr w') : RdSt q w w' q5 seq A i C xs L m c ys := by
 have h1 := h.rc.lt
 have h2 := h.lt
 refine ⟨h.res.below hb h.res.lt, h.left.below hb h.left.lt, h.rc.below hb h1, ?_, h.bin, h.nil, h.cap, h.bel.trans (hb.mono (by omega)), h2, h.heap⟩
 refine ⟨h.own.1, ?_⟩
 rcases h.own.2 with h2 | ⟨g, cap, cur, hv, hbg, hg, hr⟩
 ·exact .inl h2
 ·exact .inr ⟨g, cap, cur, hv, hbg, by rw [hb.block g (Array.getElem?_eq_some_iff.1 hg).1]; exact hg, hr⟩
theorem ownsItems_set {base : Nat} {v : Value} {n : Nat} {zs : List Value} {a : Addr} (h : wr.ownsRow base 50 5 v n zs) (ha : a.block < base) (u : Value) : (wr.setCell a u).ownsRow base 50 5 v n zs := by
 refine ⟨h.1, ?_⟩
 rcases h.2 with h2 | ⟨g, cap, cur, hv, hbg, hg, hr⟩
 ·exact .inl h2
 ·exact .inr ⟨g, cap, cur, hv, hbg, by rw [Below.heap_setCell _ _ _ _ (by omega)]; exact hg, hr⟩
theorem RdSt.took (h : RdSt q w wr q5 seq A i C xs L m c ys) (k : Nat) (hk : k ≤ m) : ∃ L', cleftV L m c k = .slice L' (m - k) (c - k) ∧ RdSt q w (wr.setCell ⟨q + 1, 0, none⟩ (.slice L' (m - k) (c - k))) q5 seq A i C xs L' (m - k) (c - k) (ys.drop k) := by
 have h2 := h.lt
 refine ⟨_, rfl, h.res.set_other (by show q ≠ q + 1; omega) _, h.left.set 0 _, h.rc.set_other (by show q5 ≠ q + 1; omega) _, ownsItems_set h.own (by show q + 1 < q5 + 1; omega) _, (NIn.back h.bin.n k hk h.cap).b, cback_nil hk h.nil, by have := h.cap; omega, h.bel.setCell (by show q ≤ q + 1; omega) _, h2, h.heap⟩
theorem RdSt.more {A' : Option Addr} {C' : Nat} {x : It} (h : RdSt q w wr q5 seq A i C xs L m c ys) (ho : w'.ownsRow (q5 + 1) 50 5 (.slice A' (i + 1) C') (i + 1) (itC (xs ++ [x]))) (hb : Below (q5 + 1) wr w') : RdSt q w (w'.setCell ⟨q5, 1, none⟩ (.slice A' (i + 1) C')) q5 seq A' (i + 1) C' (xs ++ [x]) L m c ys := by
 have h2 := h.lt
 refine ⟨(h.res.below hb (by omega)).set_other (by show q ≠ q5; omega) _, (h.left.below hb (by omega)).set_other (by show q + 1 ≠ q5; omega) _, (h.rc.below hb (by omega)).set 1 _, ownsItems_set ho (by show q5 < q5 + 1; omega) _, h.bin, h.nil, h.cap, (h.bel.trans (hb.mono (by omega))).setCell (by show q ≤ q5; omega) _, h2, h.heap⟩
theorem RdSt.binr (h : RdSt q w wr q5 seq A i C xs L m c ys) : BIn wr L m ys := h.bin.below (by rw [← h.heap]; exact h.bel)
end
/-- Can a block's numbers be read? -/
def RdOk (bs : List Int) : Prop := 18 ≤ bs.length ∧ rdM bs = 1129074503 ∧ 18 + 19 * (rdN bs).toNat ≤ bs.length
instance (bs : List Int) : Decidable (RdOk bs) := by unfold RdOk; infer_instance
/-- A list in memory that is new. -/
def Fresh (q : Nat) (A : Option Addr) (n : Nat) : Prop := n ≠ 0 → ∀ y, A.map (·.block) = some y → q ≤ y
theorem fresh_own {w : World} {base s : Nat} {t : TypeId} {A : Option Addr} {n C : Nat} {xs : List Value} (h : w.ownsRow base t s (.slice A n C) n xs) : Fresh base A n := by
 intro hn y hy
 rcases h.2 with ⟨hv, h0⟩ | ⟨g, cap, cur, hv, hb, _⟩
 ·exact (hn h0).elim
 ·simp only [Value.slice.injEq] at hv
  rw [hv.1] at hy
  simp only [Option.map_some, Option.some.injEq] at hy
  subst hy
  exact hb
def ReadGot (w : World) (bs : List Int) (e : Ending) (w' : World) : Prop :=
 Below w.heap.size w w' ∧ ((¬ RdOk bs ∧ e = diedE noRecord) ∨ (RdOk bs ∧ ∃ A n C, e = .returned (.agg #[.int .u64 (rdSeq bs), .slice A n C]) ∧ ItsIn w' A n (rdIts bs) ∧ Fresh w.heap.size A n))
theorem Tryz.info_record : (Tryz.prog.info? 47).map (·.size) = some 2 := by kernel_rfl
/-- The body panicked; nothing is deferred. -/
def DiedP (w : World) (bs : List Int) (e : Exit) (a : Act) (w' : World) : Prop := e = .panic [{ v := .iface 9 (.string noRecord), recovered := false }] ∧ a.defers = [] ∧ ReadGot w bs (diedE noRecord) w'
theorem DiedP.put {w : World} {bs : List Int} {e : Exit} {a : Act} {w' : World} {v : Value} {d : Nat} (h : DiedP w bs e (a.put (some d) v) w') : DiedP w bs e a w' := h
set_option maxHeartbeats 4000000 in
theorem cread_of (a : Option Addr) (n c : Nat) (bs : List Int) (w : World) (hx : BIn w a n bs) (hnil : a = none → n = 0 ∧ c = 0) (hnc : n ≤ c) (hn : n ≤ 100000) :
  Calls Tryz.prog 111 #[.slice a n c] w (ReadGot w bs) := by
 obtain ⟨q, hq⟩ : ∃ q, q = w.heap.size := ⟨_, rfl⟩
 have r0 : Blk ((w.alloc (.cells #[.int .u64 0, .slice none 0 0] 47)).alloc (.cells #[.slice a n c] 248)) q [.int .u64 0, .slice none 0 0] 47 := (Blk.new' hq.symm rfl).alloc _
 have r1 : Blk ((w.alloc (.cells #[.int .u64 0, .slice none 0 0] 47)).alloc (.cells #[.slice a n c] 248)) (q + 1) [.slice a n c] 248 := Blk.new' (by simp [hq]) rfl
 have bw : Below q w ((w.alloc (.cells #[.int .u64 0, .slice none 0 0] 47)).alloc (.cells #[.slice a n c] 248)) := ((Below.refl _ _).alloc (by omega) _).alloc (by simp; omega) _
 have H : Hid (BIn w a n bs ∧ (a = none → n = 0 ∧ c = 0) ∧ n ≤ c ∧ q = w.heap.size) := ⟨hx, hnil, hnc, hq⟩
 clear hx hnil hnc
 go_enter Tryz.func111, Tryz.ntmps111
 go_upto_region 2 with fail
 rw [← hq]
 clear hq
 generalize hW : World.alloc (World.alloc w _) _ = W at r0 r1 bw ⊢
 have HW : Hid (Blk W q [.int .u64 0, .slice none 0 0] 47 ∧ Blk W (q + 1) [.slice a n c] 248 ∧ Below q w W) := ⟨r0, r1, bw⟩
 clear r0 r1 bw hW
 go_wp2_with fail
 refine (headW_of W).mono ?_
 rintro e W1 ⟨rfl, rfl⟩
 go_wp2_with fail
 have b1 : Below W.heap.size W (W.alloc (.cells #[.int .i64 4, .int .i64 4, .int .i64 8, .int .i64 2] 3)) := (Below.refl _ _).alloc (Nat.le_refl _) _
 have n1 := nin_hd (w := W) rfl
 generalize hW1 : World.alloc W _ = W1 at n1 b1 ⊢
 have l1 := HW.out.2.1.below b1 HW.out.2.1.lt
 have bw1 := HW.out.2.2.trans (b1.mono (by have := HW.out.1.lt; omega))
 refine (rctake_of (q + 1) a n c 18 bs (some ⟨W.heap.size, 0, none⟩) 4 4 hdW W1 off_hd.symm (l1.cell 0) (l1.frozen 0) (H.out.1.below (by rw [← H.out.2.2.2]; exact bw1)) H.out.2.1 H.out.2.2.1 n1 hn (by omega)).mono ?_
 rintro e W3 (⟨hen, A, k, C, W2, rfl, b2, rfl, ow⟩ | ⟨hfew, rfl, b2⟩)
 rotate_left
 ·have HB : Hid (ReadGot w bs (diedE noRecord) W3) := ⟨by rw [← H.out.2.2.2]; exact bw1.trans (b2.mono (by have := l1.lt; omega)), .inl ⟨fun h => by have := h.1; have := H.out.1.1; rw [off_hd] at hfew; omega, rfl⟩⟩
  exact ⟨rfl, HB.out⟩
 rw [off_hd] at hen ⊢
 rw [val_hd] at ow
 have ow3 := ownsRow_setCell_below ow (a := ⟨q + 1, 0, none⟩) (by have := l1.lt; show q + 1 < W1.heap.size; omega) (cleftV a n c 18)
 have hsz3 : (W2.setCell ⟨q + 1, 0, none⟩ (cleftV a n c 18)).heap.size = W2.heap.size := by simp [World.setCell]
 have res3 := ((HW.out.1.below b1 HW.out.1.lt).below b2 (by have := (HW.out.1.below b1 HW.out.1.lt).lt; exact this)).set_other (a := ⟨q + 1, 0, none⟩) (by show q ≠ q + 1; omega) (cleftV a n c 18)
 have left3 := (l1.below b2 l1.lt).set 0 (cleftV a n c 18)
 have bel3 := (bw1.trans (b2.mono (by have := l1.lt; omega))).setCell (p := ⟨q + 1, 0, none⟩) (by show q ≤ q + 1; omega) (cleftV a n c 18)
 have hq2 : q + 2 ≤ W2.heap.size := by have := l1.lt; have := b2.size; omega
 generalize hW3 : World.setCell W2 _ _ = W3 at ow3 hsz3 res3 left3 bel3 ⊢
 obtain ⟨g, rfl, hk, hg, hkC, hc⟩ := cown_at ow3 (by simp)
 have hk4 : k = 4 := by simpa using hk
 subst hk4
 have c0 : W3.cell? ⟨g, 0, none⟩ = some (.int .u64 (rdM bs)) := hc 0 (by simp)
 have c2 : W3.cell? ⟨g, 2, none⟩ = some (.int .u64 (rdSeq bs)) := hc 2 (by simp)
 have c3 : W3.cell? ⟨g, 3, none⟩ = some (.int .u64 (rdN bs)) := hc 3 (by simp)
 have hNf := rdN_fits H.out.1.2.2.1
 have hIf := rdL_fits (rdN bs).toNat (ys := bs.drop 18) (fun z hz => H.out.1.2.2.1 z (List.mem_of_mem_drop hz))
 obtain ⟨M, hM⟩ : ∃ M, M = rdM bs := ⟨_, rfl⟩
 obtain ⟨S, hS⟩ : ∃ S, S = rdSeq bs := ⟨_, rfl⟩
 obtain ⟨N, hN⟩ : ∃ N : Nat, rdN bs = N := ⟨(rdN bs).toNat, by have := hNf.1; omega⟩
 rw [← hM] at c0
 rw [← hS] at c2
 rw [hN] at c3
 have hNs : N < 65536 := by have := hNf.2; omega
 have H3 : Hid (Blk W3 q [.int .u64 0, .slice none 0 0] 47 ∧ Blk W3 (q + 1) [cleftV a n c 18] 248 ∧ Below q w W3 ∧ q + 2 ≤ W3.heap.size) := ⟨res3, left3, bel3, by rw [hsz3]; exact hq2⟩
 have HF : Hid (M = rdM bs ∧ S = rdSeq bs ∧ (rdN bs).toNat = N ∧ rdIts bs = rdL N (bs.drop 18) ∧ (∀ x ∈ rdL N (bs.drop 18), x.Fits) ∧ bs.length = n) := ⟨hM, hS, by omega, by unfold rdIts; rw [hN]; rfl, by rw [hN] at hIf; exact hIf, H.out.1.1⟩
 clear ow ow3 hsz3 res3 left3 bel3 hq2 hW3 hk hg hkC hc hNf hIf hM hS hN b2 l1 bw1 n1 b1 hW1
 by_cases hMm : M = 1129074503
 ·have HM : Hid (M = 1129074503) := hMm
  have hMb : (M != 1129074503) = false := by rw [hMm]; rfl
  obtain ⟨q5, hq5⟩ : ∃ q5, q5 = W3.heap.size := ⟨_, rfl⟩
  have b5 : Below W3.heap.size W3 (W3.alloc (.cells #[.int .u64 S, .slice none 0 0] 47)) := (Below.refl _ _).alloc (Nat.le_refl _) _
  have c35 : (W3.alloc (.cells #[.int .u64 S, .slice none 0 0] 47)).cell? ⟨g, 3, none⟩ = some (.int .u64 (N : Int)) := (b5.cell (old_block c3)).trans c3
  have st0 : ∃ L', cleftV a n c 18 = .slice L' (n - 18) (c - 18) ∧ RdSt q w (W3.alloc (.cells #[.int .u64 S, .slice none 0 0] 47)) q5 S none 0 0 (rdL 0 (bs.drop 18)) L' (n - 18) (c - 18) (bs.drop 18) :=
   ⟨_, rfl, H3.out.1.alloc _, H3.out.2.1.alloc _, Blk.new' hq5.symm rfl, World.ownsRow_nil _ _ _ _, (NIn.back H.out.1.n 18 hen H.out.2.2.1).b, cback_nil hen H.out.2.1, by have := H.out.2.2.1; omega, H3.out.2.2.1.trans (b5.mono (by have := H3.out.2.2.2; omega)), by rw [hq5]; exact H3.out.2.2.2, H.out.2.2.2⟩
  obtain ⟨L0, _, st0⟩ := st0
  clear hMm b5
  go_upto_region 6 with fail
  rw [← hq5]
  generalize hW5 : World.alloc W3 _ = W5 at c35 st0 ⊢
  have H5 : Hid (RdSt q w W5 q5 S none 0 0 (rdL 0 (bs.drop 18)) L0 (n - 18) (c - 18) (bs.drop 18)) := st0
  clear st0 c0 c2 c3 hq5 hW5 hMb
  go_wp2
  go_loopw [22] (fun x wr => ∃ (i : Nat) (A : Option Addr) (C : Nat) (L : Option Addr) (m c' : Nat), x = .int .u64 i ∧ i ≤ N ∧ 18 + 19 * i + m = n ∧ RdSt q w wr q5 S A i C (rdL i (bs.drop 18)) L m c' (bs.drop (18 + 19 * i))) (fun x _ => N - (intOf x).toNat)
  case atStart => exact ⟨0, none, 0, L0, n - 18, c - 18, rfl, Nat.zero_le _, by omega, H5.out⟩
  case round =>
   obtain ⟨i, A, C', L, m, c', rfl, hi, hmn, st⟩ := hrel
   rcases Nat.lt_or_ge i N with hlt | hge
   ·have hi' : (i : Int) < N := by omega
    have hwi : IntKind.u64.wrap ((i : Int) + 1) = (i : Int) + 1 := by rw [IntKind.wrap_u64]; omega
    have v1 : wr.cell? ⟨q5, 1, none⟩ = some (.slice A i C') := st.rc.cell 1
    have v2 : ∀ o, (wr.alloc o).cell? ⟨q5, 1, none⟩ = some (.slice A i C') := fun o => (st.rc.alloc o).cell 1
    have hST : Hid (RdSt q w wr q5 S A i C' (rdL i (bs.drop 18)) L m c' (bs.drop (18 + 19 * i)) ∧ 18 + 19 * i + m = n) := ⟨st, hmn⟩
    have hTk : Hid (∀ (V : World) (b : Nat), V = (wr.alloc (.cells #[.int .i64 4, .int .i64 8, .int .i64 1, .int .i64 4, .int .i64 2] 3)).drew → b = wr.heap.size → Calls Tryz.prog 169 #[.pointer (some ⟨q + 1, 0, none⟩), .int .i64 19, .slice (some ⟨b, 0, none⟩) 5 5] V (RCTook (q + 1) L m c' (bs.drop (18 + 19 * i)) itW V)) := by
     intro V b hV hb
     subst hb
     have sV : RdSt q w V q5 S A i C' (rdL i (bs.drop 18)) L m c' (bs.drop (18 + 19 * i)) := st.below (by rw [hV]; exact ((Below.refl _ _).alloc (Nat.le_refl _) _).drew)
     exact rctake_of (q + 1) L m c' 19 _ _ 5 5 itW V off_it.symm (sV.left.cell 0) (sV.left.frozen 0) sV.binr sV.nil sV.cap (by rw [hV]; exact (nin_it rfl).drew) (by omega) (by omega)
    clear st
    by_cases hm19 : 19 ≤ m
    ·obtain ⟨X, hX⟩ : ∃ X, X = rdI (bs.drop (18 + 19 * i)) := ⟨_, rfl⟩
     have hXf : X.Fits := by rw [hX]; exact rdI_fits (fun z hz => H.out.1.2.2.1 z (List.mem_of_mem_drop hz))
     have HX : Hid (X = rdI (bs.drop (18 + 19 * i)) ∧ X.Fits ∧ 19 ≤ m) := ⟨hX, hXf, hm19⟩
     have hnx : Hid (rdL (i + 1) (bs.drop 18) = rdL i (bs.drop 18) ++ [X]) := by
      show _ = _
      rw [rdL_snoc, List.drop_drop, ← hX]
     clear hX hXf hm19
     go_wp2
     go_region_law (first
      | (go_simp; go_at_call 168; refine (itemW_of _).mono ?_; rintro e V1 ⟨rfl, rfl⟩)
      | (go_simp; go_at_call 169; refine (hTk.out _ _ rfl rfl).mono ?_; rintro e V3 (⟨_, A2, k2, C2, V2, rfl, b2, rfl, ow2⟩ | ⟨hfew, _, _⟩); rotate_left; (exact absurd HX.out.2.2 (by rw [off_it] at hfew; omega)); rw [val_it, ← HX.out.1] at ow2; rw [off_it]; have stV := (hST.out.1.below (((Below.refl _ _).alloc (Nat.le_refl _) _).drew.trans (b2.mono (by simp)))).took 19 HX.out.2.2; have ow3 := ownsRow_setCell_below ow2 (a := ⟨q + 1, 0, none⟩) (by have := hST.out.1.rc.lt; have := hST.out.1.lt; simp; omega) (cleftV L m c' 19); obtain ⟨L', eL, st3⟩ := stV; rw [eL] at ow3 ⊢; generalize World.setCell V2 _ _ = V3 at st3 ow3 ⊢; obtain ⟨gN, eA, hk5, _, _, hcN⟩ := cown_at ow3 (by simp [itV]); cases eA; have hk5' : k2 = 5 := (by simpa [itV] using hk5); subst hk5'; clear hk5; have n0 : V3.cell? ⟨gN, 0, none⟩ = some (.int .u64 X.t) := hcN 0 (by simp [itV]); have n1 : V3.cell? ⟨gN, 1, none⟩ = some (.int .u64 X.b) := hcN 1 (by simp [itV]); have n2 : V3.cell? ⟨gN, 2, none⟩ = some (.int .u64 X.k) := hcN 2 (by simp [itV]); have n3 : V3.cell? ⟨gN, 3, none⟩ = some (.int .u64 X.s) := hcN 3 (by simp [itV]); have n4 : V3.cell? ⟨gN, 4, none⟩ = some (.int .u64 X.e) := hcN 4 (by simp [itV]); have m1 : V3.cell? ⟨q5, 1, none⟩ = some (.slice A i C') := st3.rc.cell 1)
      | (go_simp; go_at_call 170; refine (citem_of gN C2 X _ n0 n1 n2 n3 n4 HX.out.2.1).mono ?_; rintro e V4 ⟨rfl, b4⟩; have st4 := st3.below b4; have m2 : V4.cell? ⟨q5, 1, none⟩ = some (.slice A i C') := st4.rc.cell 1; have m3 : ∀ o, (V4.alloc o).cell? ⟨q5, 1, none⟩ = some (.slice A i C') := fun o => (st4.rc.alloc o).cell 1; obtain ⟨a9, c9, w9, e9, o9, b9⟩ := app_item st4.own X (by omega) (by have := st4.rc.lt; omega); have rc9 := st4.rc.below b9 (by omega); have m4 : w9.cell? ⟨q5, 1, none⟩ = some (.slice A i C') := rc9.cell 1; have m5 := rc9.frozen 1; have st9 := st4.more o9 b9)
      | (refine cstep_append_run rfl (.tmp 25) (.tmp 29) 45 45 rfl _ _ rfl rfl _ _ e9 ?_))
     all_goals (
      have H9 : Hid (RdSt q w (w9.setCell ⟨q5, 1, none⟩ (.slice a9 (i + 1) c9)) q5 S a9 (i + 1) c9 (rdL (i + 1) (bs.drop 18)) L' (m - 19) (c' - 19) (bs.drop (18 + 19 * (i + 1)))) := by
       rw [List.drop_drop, ← hnx.out] at st9
       exact st9
      clear e9 o9 b9 rc9 m4 m5 st9 st4 b4 m2 m3 st3 ow3 ow2 b2 n0 n1 n2 n3 n4 m1 hcN v1 v2 eL
      generalize World.setCell w9 _ _ = V9 at H9 ⊢
      go_wp2
      go_roundw
      case rel => exact ⟨i + 1, a9, c9, L', m - 19, c' - 19, by simp, by omega, by have := HX.out.2.2; have := hST.out.2; omega, H9.out⟩
      case measure => simp [intOf]; omega)
    ·have HN : Hid (¬ RdOk bs ∧ m < 19) := ⟨fun h => by
      have h1 := h.2.2
      rw [HF.out.2.2.1, HF.out.2.2.2.2.2] at h1
      have := hST.out.2
      omega, by omega⟩
     clear hm19
     have HPP : Hid (∀ V3, Below (wr.alloc (.cells #[.int .i64 4, .int .i64 8, .int .i64 1, .int .i64 4, .int .i64 2] 3)).drew.heap.size (wr.alloc (.cells #[.int .i64 4, .int .i64 8, .int .i64 1, .int .i64 4, .int .i64 2] 3)).drew V3 → ReadGot w bs (diedE noRecord) V3) := fun V3 b2 => ⟨by rw [← H.out.2.2.2]; exact hST.out.1.bel.trans (((Below.refl _ _).alloc (by have := hST.out.1.rc.lt; have := hST.out.1.lt; omega) _).drew.trans (b2.mono (by have := hST.out.1.rc.lt; have := hST.out.1.lt; simp; omega))), .inl ⟨HN.out.1, rfl⟩⟩
     go_wp2
     refine Code.wp_mono (Q := DiedP w bs) ?_ ?_
     ·rintro e ⟨tmps, defers⟩ w' ⟨rfl, h2, h3⟩
      dsimp only at h2
      subst h2
      exact ⟨rfl, h3⟩
     ·refine wp_region_held_drew (S := fun V => V.cell? ⟨q5, 1, none⟩ = some (.slice A i C')) (by kernel_rfl) (by exact v1) (fun hS => ?_)
      refine wpAnyH_take (i := 0) (oi := { dst := some 24, op := Op.fieldAddr 47 (Operand.tmp 5) 1, type := 0, pos := "rec.go:146", after := #[], guard := none }) (v := .pointer (some ⟨q5, 1, none⟩)) rfl (by kernel_rfl) (by kernel_rfl) (by kernel_rfl) (fun _ _ _ h => DiedP.put h) (Or.inl ⟨by rfl, fun w hw => by go_simp⟩) hS ?_
      simp only [Act.put, List.setIfInBounds_toArray, List.set_cons_zero, List.set_cons_succ]
      refine wpAnyH_take (i := 1) (oi := { dst := some 25, op := Op.load 45 (Operand.tmp 24), type := 45, pos := "rec.go:146", after := #[{ on := 0, ground := Ground.data }], guard := none }) (v := .slice A i C') rfl (by kernel_rfl) (by kernel_rfl) (by kernel_rfl) (fun _ _ _ h => DiedP.put h) (Or.inl ⟨by rfl, fun w hw => by go_simp⟩) hS ?_
      simp only [Act.put, List.setIfInBounds_toArray, List.set_cons_zero, List.set_cons_succ]
      refine wpAnyH_ready (rs := [2]) (by kernel_rfl) (by simp) (AllReadyH.cons (o := { dst := some 26, op := Op.call { callee := Callee.value (Operand.func 168), args := #[], argTypes := #[] }, type := 38, pos := "rec.go:146", after := #[], guard := none }) rfl (fun KK hK => ?_) AllReadyH.nil)
      go_simp
      refine (itemW_of _).mono ?_
      rintro e V1 ⟨rfl, rfl⟩
      refine hK.out _ _ (by exact v2 _) (fun hS' => ?_)
      clear hK KK hS'
      refine wpAnyH_ready (rs := [3]) (by kernel_rfl) (by simp) (AllReadyH.cons (o := { dst := some 27, op := Op.call { callee := Callee.value (Operand.func 169), args := #[Operand.tmp 3, Operand.const (Value.int IntKind.i64 19), Operand.tmp 26], argTypes := #[248, 3, 38] }, type := 82, pos := "rec.go:146", after := #[{ on := 2, ground := Ground.data }, { on := 2, ground := Ground.chain }], guard := none }) rfl (fun KK hK => ?_) AllReadyH.nil)
      go_simp
      refine (hTk.out _ _ rfl rfl).mono ?_
      rintro e V3 (⟨hen2, _⟩ | ⟨_, he, b2⟩)
      ·exact absurd HN.out.2 (by rw [off_it] at hen2; omega)
      ·unfold diedE at he
       subst he
       exact ⟨rfl, rfl, HPP.out V3 b2⟩
   ·obtain rfl : i = N := by omega
    have k0 : wr.cell? ⟨q5, 0, none⟩ = some (.int .u64 S) := st.rc.cell 0
    have k1 : wr.cell? ⟨q5, 1, none⟩ = some (.slice A i C') := st.rc.cell 1
    have d0 : wr.cell? ⟨q, 0, none⟩ = some (.int .u64 0) := st.res.cell 0
    have d1 : wr.cell? ⟨q, 1, none⟩ = some (.slice none 0 0) := st.res.cell 1
    have z0 := st.res.frozen 0
    have z1 := st.res.frozen 1
    have hlt5 := st.lt
    have bR : Blk ((wr.setCell ⟨q, 0, none⟩ (.int .u64 S)).setCell ⟨q, 1, none⟩ (.slice A i C')) q [.int .u64 S, .slice A i C'] 47 := (st.res.set 0 _).set 1 _
    have oR : ((wr.setCell ⟨q, 0, none⟩ (.int .u64 S)).setCell ⟨q, 1, none⟩ (.slice A i C')).ownsRow (q5 + 1) 50 5 (.slice A i C') i (itC (rdL i (bs.drop 18))) := ownsItems_set (ownsItems_set st.own (by show q < q5 + 1; omega) _) (by show q < q5 + 1; omega) _
    have bel9 := (st.bel.setCell (p := ⟨q, 0, none⟩) (Nat.le_refl _) (.int .u64 S)).setCell (p := ⟨q, 1, none⟩) (Nat.le_refl _) (.slice A i C')
    have HZ : Hid (Blk ((wr.setCell ⟨q, 0, none⟩ (.int .u64 S)).setCell ⟨q, 1, none⟩ (.slice A i C')) q [.int .u64 S, .slice A i C'] 47 ∧ ReadGot w bs (.returned (.agg #[.int .u64 S, .slice A i C'])) ((wr.setCell ⟨q, 0, none⟩ (.int .u64 S)).setCell ⟨q, 1, none⟩ (.slice A i C'))) := by
     refine ⟨bR, by rw [← H.out.2.2.2]; exact bel9, .inr ⟨⟨by rw [HF.out.2.2.2.2.2]; exact hen, HF.out.1.symm.trans HM.out, by rw [HF.out.2.2.1, HF.out.2.2.2.2.2]; omega⟩, A, i, C', by rw [HF.out.2.1], ?_⟩⟩
     rw [HF.out.2.2.2.1]
     refine ⟨own_its oR (by unfold maxLen; omega) HF.out.2.2.2.2.1, fun hn y hy => ?_⟩
     have h1 := fresh_own oR hn y hy
     have h2 := H.out.2.2.2
     show w.heap.size ≤ y
     omega
    clear bR oR bel9 st hmn
    go_wp2
    exact bodyPost_ret (results_cell_one (p := 2) (ty := 47) rfl _ _ q _ _ _ rfl HZ.out.1 Tryz.underlying47 rfl Tryz.info_record) rfl HZ.out.2
 ·have hMb : (M != 1129074503) = true := by simp [hMm]
  have HB : Hid (ReadGot w bs (diedE noRecord) W3) := ⟨by rw [← H.out.2.2.2]; exact H3.out.2.2.1, .inl ⟨fun h => hMm (HF.out.1.trans h.2.1), rfl⟩⟩
  clear hMm
  go_wp2
  exact ⟨rfl, HB.out⟩
end
end Go.Proofs.YtcdnjeiamihhbabGreat
