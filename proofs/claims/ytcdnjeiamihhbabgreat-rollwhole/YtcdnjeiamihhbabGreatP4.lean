/- P4 -/
import Derived.RangeFuncNested
import Derived.RangeFuncBound
import Derived.RangeFuncCalls
import Derived.RangeFuncLeaves
import Derived.Shelf.Abstract
import Derived.Shelf.AbstractIn
import Derived.Shelf.RegionOpen
import Derived.OwnWalkIn
import Derived.TacticsInMore
import Derived.LoopNIn
import Derived.LoopIn
import Derived.Deep.RegionHeld
import Derived.Deep.RegionHeld3
import Derived.Test.YtcdnjeiamihhbabGreatP3
set_option linter.unusedVariables false
set_option maxRecDepth 4000
namespace Go.Proofs.YtcdnjeiamihhbabGreat
open Go.RowKit Go.Shelf
/-- The loop's record and the block for the rounds' deferred calls. -/
def Book (R : Loop) (l : Nat) (W : World) : Prop := W.heap[l + 1]? = some (.loop R) ∧ W.heap[l]? = some (.deferred (some []))
theorem Book.out {R : Loop} {l : Nat} {W W' : World} {S : Nat → Prop} (h : Book R l W) (ho : Out S W W') (hS : ∀ j, S j → ∃ c t f, W.heap[j]? = some (.cells c t f)) : Book R l W' := by
 refine ⟨(ho.block _ (Array.getElem?_eq_some_iff.1 h.1).1 (fun e => ?_)).trans h.1, (ho.block _ (Array.getElem?_eq_some_iff.1 h.2).1 (fun e => ?_)).trans h.2⟩
 ·obtain ⟨c, t, f, hc⟩ := hS _ e
  rw [h.1] at hc; cases hc
 ·obtain ⟨c, t, f, hc⟩ := hS _ e
  rw [h.2] at hc; cases hc
theorem Book.below {R : Loop} {l : Nat} {W W' : World} (h : Book R l W) (ho : Below W.heap.size W W') : Book R l W' := h.out (below_out Non ho) (fun _ e => e.elim)
/-- Two worlds that differ in the loop's record alone. -/
def Calm (l : Nat) (W W' : World) : Prop := (∀ c t f, W.heap[l]? ≠ some (.cells c t f)) ∧ Out (fun j => j = l) W W' ∧ W'.heap.size = W.heap.size
theorem calm_put {l : Nat} {W : World} {r : Loop} (h : W.heap[l]? = some (.loop r)) (o : Obj) : Calm l W (W.putObj l o) :=
 ⟨(fun c t f e => by rw [h] at e; cases e), ⟨rfl, rfl, rfl, by simp, fun k _ hk => World.putObj_heap_other hk⟩, by simp⟩
theorem calm_shut {l : Nat} {W : World} {r : Option (List Deferred)} (h : W.heap[l]? = some (.deferred r)) (o : Obj) : Calm l W (W.putObj l o) :=
 ⟨(fun c t f e => by rw [h] at e; cases e), ⟨rfl, rfl, rfl, by simp, fun k _ hk => World.putObj_heap_other hk⟩, by simp⟩
theorem Calm.blk {l : Nat} {W W' : World} {g : Nat} {L : List Value} {t : TypeId} (h : Calm l W W') (hb : Blk W g L t) : Blk W' g L t :=
 h.2.1.blk hb (fun e => by subst e; exact h.1 _ _ _ hb)
theorem Calm.own {l : Nat} {W W' : World} (h : Calm l W W') {B : Nat} {e : TypeId} {s n : Nat} {v : Value} {xs : List Value} (hr : W.ownsRow B e s v n xs) : W'.ownsRow B e s v n xs :=
 h.2.1.own hr (fun g hg e => by subst e; obtain ⟨cur, hc⟩ := own_at_block hr hg; exact h.1 _ _ _ hc)
theorem Calm.bk {l : Nat} {W W' : World} (h : Calm l W W') {O : Nat → Prop} {u : Value} {D : List Int} (hb : BkAt O W u D) : BkAt O W' u D := ⟨h.own hb.1, hb.2⟩
theorem Calm.bs {l : Nat} {W W' : World} (h : Calm l W W') {O : Nat → Prop} {vs : List Value} {bs : List (List Int)} (hb : BsAt O W vs bs) : BsAt O W' vs bs := ⟨hb.1, fun i u D h1 h2 => h.bk (hb.2 i u D h1 h2)⟩
theorem Calm.row {l : Nat} {W W' : World} (h : Calm l W W') {O : Nat → Prop} {v : Value} {bs : List (List Int)} (hb : RowAt O W v bs) : RowAt O W' v bs := by
 obtain ⟨vs, a, b, c, d⟩ := hb
 exact ⟨vs, h.own a, b, h.bs c, d⟩
theorem Calm.out {l : Nat} {W W' w : World} (h : Calm l W W') {O : Nat → Prop} (ho : Out O w W) (hl : w.heap.size ≤ l) : Out O w W' := ho.trans h.2.1 (fun j e => .inr (by omega))
theorem Calm.cell {l : Nat} {W W' : World} (h : Calm l W W') {p : Addr} {v : Value} (hc : W.cell? p = some v) : W'.cell? p = some v :=
 h.2.1.cell hc (fun e => by
  unfold World.cell? at hc
  split at hc
  ·rename_i c t f hh; rw [e] at hh; exact h.1 _ _ _ hh
  ·cases hc)
/-- The law. J k: ahead of round k; J' k x: where the iterator hands x to round k; E: behind the iterator. -/
theorem wpIn_range {n : Nat} {P : Program} {g : Operand} {p : Tmp} {assign body : Code} {Q : Exit → Act → World → Prop} {a : Act} {w : World}
  {gf : Nat} {lb : Array Value} (hg : a.eval g = .func (.func gf) #[] lb) (eg : Enters P gf)
  (J : Nat → World → Prop) (J' : Nat → Value → World → Prop) (E : World → Prop)
  (hJ : ∀ k W W', J k W → Calm (w.heap.size + 1) W W' → J k W') (hJ' : ∀ k x W W', J' k x W → Calm (w.heap.size + 1) W W' → J' k x W') (hE : ∀ W W', E W → Calm (w.heap.size + 1) W W' → E W')
  (h0 : ∀ o o', J 0 ((w.alloc o).alloc o'))
  (a₁ : Value → Act)
  (hassign : ∀ (l : Nat) (k : Nat) (x : Value) (W : World) (K : Act → World → Prop), J' k x W → K (a₁ x) W →
   assign.wpIn (Fence.wide.inRound l) (n - 1 - 1) P (Exit.then K (fun _ _ _ => False)) { tmps := (#[p].zip #[x]).foldl (fun t (p, v) => t.setIfInBounds p v) a.tmps, defers := [] } W)
  (hbody : ∀ (l : Nat) (R : Loop) (k : Nat) (x : Value) (W : World), Book R w.heap.size W → J' k x W → body.wpIn (Fence.wide.inRound l) (n - 1 - 1) P (fun e _ W' => e = .normal ∧ Book R w.heap.size W' ∧ J (k + 1) W') (a₁ x) W)
  (hiter : ∀ (R : Loop) (W : World), (∀ k x W1, Book R w.heap.size W1 → J' k x W1 → YieldAt Fence.wide (n - 1 - 1) P (w.heap.size + 1) #[x] W1 fun e W' => e = .returned (.bool true) ∧ Book R w.heap.size W' ∧ J (k + 1) W') →
   Book R w.heap.size W → J 0 W → CallsIn Fence.wide (n - 1) P gf (#[.func (.yield (w.heap.size + 1)) #[] #[]] ++ lb) W fun e W' => (∃ v, e = .returned v) ∧ Book R w.heap.size W' ∧ E W')
  (hdone : ∀ W, E W → W.heap[w.heap.size]? = some (.deferred (some [])) → Q .normal { a with defers := { target := .collected w.heap.size, args := #[] } :: a.defers } W) :
  (Code.rangeFunc g #[p] assign body).wpIn Fence.wide n P Q a w := by
 refine wpIn_rangeFunc ?_
 intro fn hfn
 have hro : Fence.wide.round = none := rfl
 rw [hro]
 obtain ⟨rec, hrec⟩ : ∃ rec : LoopState → Option Code → Loop, rec = fun st pe => { state := st, pending := pe, fn, tmps := a.tmps, params := #[p], assign, body, defers := w.heap.size } := ⟨_, rfl⟩
 obtain ⟨W1, hW1⟩ : ∃ W1, (w.alloc (.deferred (some []))).alloc (.loop (rec .ready none)) = W1 := ⟨_, rfl⟩
 have hL1 : W1.heap[w.heap.size + 1]? = some (.loop (rec .ready none)) := by
  rw [← hW1]; have := World.alloc_heap_new (w.alloc (.deferred (some []))) (.loop (rec .ready none)); rwa [World.size_alloc] at this
 have hK1 : W1.heap[w.heap.size]? = some (.deferred (some [])) := by
  rw [← hW1]; exact (Below.heap_alloc _ _ _ (by simp)).trans (World.alloc_heap_new w _)
 have hI1 : J 0 W1 := by rw [← hW1]; exact h0 _ _
 refine ⟨w.heap.size + 1, [{ target := .collected w.heap.size, args := #[] }], W1, { target := .fn (.func gf) lb, args := #[.func (.yield (w.heap.size + 1)) #[] #[]] }, W1, gf,
  #[.func (.yield (w.heap.size + 1)) #[] #[]] ++ lb, W1, ?_, ?_, ?_, ?_, fun h => by simp [Fence.wide] at h, ?_⟩
 ·rw [← hW1, hrec]; exact run_enterLoop_outer _ _ _ _ _
 ·simp only [resolve, hg]
  simp [go_sem]
 ·intro f' hf'; trivial
 ·have eg' := fun args w => eg args w
  simp [invoke, go_sem, eg']
 ·refine (hiter (rec .ready none) W1 ?_ ⟨hL1, hK1⟩ hI1).mono ?_
  ·rintro k x W ⟨hl, hk⟩ hj
   have hlt : w.heap.size + 1 < W.heap.size := (Array.getElem?_eq_some_iff.1 hl).1
   have hy := run_yield (P := P) (args := #[x]) hl (by rw [hrec]; rfl)
   rw [hrec] at hy
   refine ⟨fn, _, assign, body, hy, roundIn_of_wpIn hfn (hassign _ k x W _ hj ⟨_, run_beginRound hl (by rw [hrec]), ?_⟩)⟩
   have hl2 : (W.putObj (w.heap.size + 1) (.loop { rec .ready none with state := .busy })).heap[w.heap.size + 1]? = some (.loop { rec .ready none with state := .busy }) := World.putObj_heap_same hlt
   have hk2 : (W.putObj (w.heap.size + 1) (.loop { rec .ready none with state := .busy })).heap[w.heap.size]? = some (.deferred (some [])) := (World.putObj_heap_other (by omega)).trans hk
   refine wpIn_mono (hbody _ _ k x _ ⟨hl2, hk2⟩ (hJ' k x _ _ hj (calm_put hl _))) ?_
   rintro e a3 W3 ⟨rfl, ⟨hl3, hk3⟩, hj3⟩
   have hr := run_endRound (P := P) none hl3
   refine ⟨_, _, hr, rfl, ⟨?_, ?_⟩, hJ _ _ _ hj3 (calm_put hl3 _)⟩
   ·rw [World.putObj_heap_same (Array.getElem?_eq_some_iff.1 hl3).1, hrec]; rfl
   ·exact (World.putObj_heap_other (by omega)).trans hk3
  ·rintro e W2 ⟨⟨v, rfl⟩, ⟨hl, hk⟩, he⟩
   exact ⟨none, _, by have := run_endLoop (P := P) hl (by rw [hrec]; simp); rw [hrec] at this; exact this, hdone _ (hE _ _ he (calm_put hl _)) ((World.putObj_heap_other (by omega)).trans hk)⟩
attribute [local go_sem] Oper.semAt_some
structure CutJ (nb : Nat) (a : Option Addr) (c gf : Nat) (lb : Array Value) (B1 B2 : Nat) (bs : List (List Int)) (fit : Nat → Nat) (l : Nat) (R : Loop) (n : Nat) (J JF : Nat → World → Prop) (J' : Nat → Value → World → Prop) : Prop where
 len : bs.length = nb
 small : nb ≤ 100000
 cap : ∀ k W, J k W → W.cell? ⟨B1, 0, none⟩ = some (.slice a nb c) ∧ W.cell? ⟨B2, 0, none⟩ = some (.func (.func gf) #[] lb)
 rd : ∀ k W D, J k W → bs[k]? = some D → ∃ b off A L C, a = some ⟨b, off, none⟩ ∧ W.cell? ⟨b, off + k, none⟩ = some (.slice A L C) ∧ BIn W A L D ∧ L ≤ C ∧ L ≤ 100000
 fits : ∀ k W D A L C, J k W → bs[k]? = some D → BIn W A L D → Book R l W → Calls Tryz.prog gf (#[.slice A L C] ++ lb) W fun e W' => e = .returned (.int .i64 (fit k)) ∧ JF k W' ∧ Book R l W' ∧ BIn W' A L D
 le : ∀ k D, bs[k]? = some D → fit k ≤ D.length
 torn : ∀ k W D x W', JF k W → bs[k]? = some D → 0 < fit k → Below W.heap.size W W' → BkAt (fun k => W.heap.size ≤ k) W' x (tornL D (fit k)) → (∃ g, x = .slice (some ⟨g, 0, none⟩) D.length D.length) → J' k x W'
def CutE (nb : Nat) (fit : Nat → Nat) (l : Nat) (R : Loop) (J JF : Nat → World → Prop) (W' : World) : Prop :=
 Book R l W' ∧ ∃ k, k ≤ nb ∧ (∀ j, j < k → 0 < fit j) ∧ ((k = nb ∧ J k W') ∨ (k < nb ∧ fit k = 0 ∧ JF k W'))
set_option maxRecDepth 100000 in
set_option maxHeartbeats 2000000 in
theorem cut1_of {nb : Nat} {a : Option Addr} {c gf : Nat} {lb : Array Value} {B1 B2 : Nat} {bs : List (List Int)} {fit : Nat → Nat} {l : Nat} {R : Loop} {n : Nat} {J JF : Nat → World → Prop} {J' : Nat → Value → World → Prop}
  (H : CutJ nb a c gf lb B1 B2 bs fit l R n J JF J') (eg : Enters Tryz.prog gf)
  (hY : ∀ k x W1, Book R l W1 → J' k x W1 → YieldAt Fence.wide (n - 1) Tryz.prog (l + 1) #[x] W1 fun e W' => e = .returned (.bool true) ∧ Book R l W' ∧ J (k + 1) W')
  (W : World) (hB : Book R l W) (h0 : J 0 W) :
  CallsIn Fence.wide n Tryz.prog 143 #[.func (.yield (l + 1)) #[] #[], .pointer (some ⟨B1, 0, none⟩), .pointer (some ⟨B2, 0, none⟩)] W fun e W' => (∃ v, e = .returned v) ∧ CutE nb fit l R J JF W' := by
 obtain ⟨c1, c2⟩ := H.cap 0 W h0
 refine callsIn_of_wp Tryz.func143 rfl trivial ?_ rfl
 simp only [Tryz.ntmps143, List.size_toArray, List.length_cons, List.length_nil, Nat.reduceAdd, Nat.reduceSub, Array.replicate_succ, Array.replicate_zero, List.push_toArray, List.append_toArray, List.nil_append, List.cons_append]
 have hfw : ∀ f, Fence.wide.fn f = True := fun _ => rfl
 have hdw : Fence.wide.depth.isSome = false := rfl
 have eg' : ∀ args w, (callFunc gf args).run Tryz.prog w = .ok (.enter gf args) w := eg
 have HH : Hid (CutJ nb a c gf lb B1 B2 bs fit l R n J JF J' ∧ Book R l W ∧ J 0 W) := ⟨H, hB, h0⟩
 have HY : Hid (∀ k x W1, Book R l W1 → J' k x W1 → YieldAt Fence.wide (n - 1) Tryz.prog (l + 1) #[x] W1 fun e W' => e = .returned (.bool true) ∧ Book R l W' ∧ J (k + 1) W') := hY
 clear H hB h0 hY
 gi_wp2
 gi_loopw [9] (fun i wr => ∃ k : Nat, i = .int .i64 k ∧ k ≤ nb ∧ (∀ j, j < k → 0 < fit j) ∧ Book R l wr ∧ J k wr) (fun i wr => nb - (intOf i).toNat)
 case atStart =>
  exact ⟨0, rfl, Nat.zero_le _, by simp, HH.out.2.1, HH.out.2.2⟩
 case round =>
  obtain ⟨k, rfl, hk, hpos, hbk, hj⟩ := hrel
  obtain ⟨c3, c4⟩ := HH.out.1.cap k _ hj
  rcases Nat.lt_or_ge k nb with hlt | hge
  ·obtain ⟨D, hD⟩ : ∃ D, bs[k]? = some D := ⟨bs[k]'(by rw [HH.out.1.len]; exact hlt), by simp [HH.out.1.len, hlt]⟩
   obtain ⟨b, off, A, L, C, rfl, hc, hin, hLC, hL⟩ := HH.out.1.rd k _ D hj hD
   have hw : IntKind.i64.wrap ((k : Int) + 1) = (k : Int) + 1 := by have := HH.out.1.small; rw [IntKind.wrap_i64]; omega
   obtain ⟨N, hN⟩ : ∃ N, N = fit k := ⟨_, rfl⟩
   have hf := HH.out.1.fits k wr D A L C hj hD hin hbk
   rw [← hN] at hf
   have HN : Hid (N = fit k ∧ bs[k]? = some D ∧ (∀ j, j < k → 0 < fit j) ∧ k < nb) := ⟨hN, hD, hpos, hlt⟩
   have hle := HH.out.1.le k D hD
   rw [← hN, hin.1] at hle
   have HL : Hid (N ≤ L ∧ L ≤ C ∧ L ≤ 100000) := ⟨hle, hLC, hL⟩
   have HF : Hid (Calls Tryz.prog gf (#[.slice A L C] ++ lb) wr fun e W' => e = .returned (.int .i64 N) ∧ JF k W' ∧ Book R l W' ∧ BIn W' A L D) := hf
   clear hN hD hpos hle hLC hL hf hk hbk hj hin
   rcases Nat.eq_zero_or_pos N with rfl | hN0
   ·gi_wp2_with (gi_at_fn gf; refine (callsIn_wide.2 HF.out).mono ?_; rintro e W2 ⟨rfl, hjf, hbk2, hin2⟩)
    refine bodyPost_ret (results_none rfl _ _ _) rfl ?_
    exact ⟨⟨_, rfl⟩, hbk2, k, by have := HN.out.2.2.2; omega, HN.out.2.2.1, .inr ⟨HN.out.2.2.2, HN.out.1.symm, hjf⟩⟩
   ·have hne : ((N : Int) == 0) = false := by simp; omega
    have hlt' := HN.out.2.2.2
    have HP : Hid (0 < N) := hN0
    clear hN0
    gi_wp2_with (first
     | (gi_at_fn gf; refine (callsIn_wide.2 HF.out).mono ?_; rintro e W2 ⟨rfl, hjf, hbk2, hin2⟩)
     | (gi_at_call 144; refine (callsIn_wide.2 (torn_of A L C N D W2 hin2 HL.out.1 HL.out.2.1 HL.out.2.2)).mono ?_; rintro e W3 ⟨x, rfl, hx1, hx2, gx, rfl, hx3⟩; obtain ⟨fn, tmps, assign, body, hy, hR⟩ := HY.out k _ W3 (hbk2.below hx2) (HH.out.1.torn k W2 D _ W3 hjf HN.out.2.1 (by rw [← HN.out.1]; exact HP.out) hx2 (by rw [← HN.out.1]; exact hx1) ⟨gx, rfl⟩)))
    refine hR.mono ?_
    rintro e W4 ⟨rfl, hbk4, hj4⟩
    have HJ : Hid (Book R l W4 ∧ J (k + 1) W4) := ⟨hbk4, hj4⟩
    clear hR hy hbk4 hj4 hjf hbk2 hin2 hx1 hx2 hx3
    gi_wp2
    go_roundw
    case rel =>
     refine ⟨k + 1, by simp, by omega, fun j hj => ?_, HJ.out.1, HJ.out.2⟩
     rcases Nat.lt_or_ge j k with h | h
     ·exact HN.out.2.2.1 j h
     ·obtain rfl : j = k := by omega
      rw [← HN.out.1]; exact HP.out
    case measure => simp [intOf]; omega
  ·have hkn : k = nb := by omega
   subst hkn
   gi_wp2
   go_end0
   exact ⟨⟨_, rfl⟩, hbk, k, hk, hpos, .inl ⟨rfl, hj⟩⟩
def BkIn (W : World) (v : Value) (D : List Int) : Prop := ∃ A L C, v = .slice A L C ∧ BIn W A L D ∧ (A = none → L = 0 ∧ C = 0) ∧ L ≤ C ∧ L ≤ 100000
def BsIn (W : World) (a : Option Addr) (n : Nat) (bs : List (List Int)) : Prop :=
 bs.length = n ∧ n ≤ 100000 ∧ (n = 0 ∨ ∃ b off, a = some ⟨b, off, none⟩ ∧ ∀ (i : Nat) (D : List Int), bs[i]? = some D → ∃ v, W.cell? ⟨b, off + i, none⟩ = some v ∧ BkIn W v D)
theorem BkIn.below {w w' : World} {v : Value} {D : List Int} (h : BkIn w v D) (hb : Below w.heap.size w w') : BkIn w' v D := by
 obtain ⟨A, L, C, h1, h2, h3⟩ := h
 exact ⟨A, L, C, h1, h2.below hb, h3⟩
theorem BsIn.below {w w' : World} {a : Option Addr} {n : Nat} {bs : List (List Int)} (h : BsIn w a n bs) (hb : Below w.heap.size w w') : BsIn w' a n bs := by
 obtain ⟨h1, h2, h3⟩ := h
 refine ⟨h1, h2, ?_⟩
 rcases h3 with h3 | ⟨b, off, ha, hc⟩
 ·exact .inl h3
 ·refine .inr ⟨b, off, ha, fun i D hi => ?_⟩
  obtain ⟨v, h4, h5⟩ := hc i D hi
  exact ⟨v, by rw [hb.cell (old_block h4)]; exact h4, h5.below hb⟩
/-- A slice's capacity is at least its length. -/
theorem own_cap {w : World} {B : Nat} {e : TypeId} {s n : Nat} {a : Option Addr} {m c : Nat} {xs : List Value} (h : w.ownsRow B e s (.slice a m c) n xs) : m ≤ c ∧ m = n := by
 rcases h.2 with ⟨hv, hn⟩ | ⟨g, cap, cur, hv, _, _, hc, _⟩
 ·cases hv; exact ⟨Nat.le_refl _, by omega⟩
 ·cases hv; exact ⟨hc, rfl⟩
theorem BkAt.bkin {O : Nat → Prop} {W : World} {v : Value} {D : List Int} (h : BkAt O W v D) (hd : D.length ≤ 100000) : BkIn W v D := by
 obtain ⟨a, c, rfl⟩ := own_slice h.1
 obtain ⟨h1, h2, h3⟩ := h.bin
 exact ⟨a, D.length, c, rfl, h1, h2, (own_cap h.1).1, hd⟩
/-- All blocks of a row are short. -/
def Short (bs : List (List Int)) : Prop := ∀ D ∈ bs, D.length ≤ 100000
theorem RowAt.bsin {O : Nat → Prop} {W : World} {a : Option Addr} {n c : Nat} {bs : List (List Int)} (h : RowAt O W (.slice a n c) bs) (hs : Short bs) : BsIn W a n bs := by
 obtain ⟨vs, h1, h2, h3, h4⟩ := h
 have hn : n = bs.length := (own_cap h1).2
 refine ⟨hn.symm, by omega, ?_⟩
 rcases h1.2 with ⟨hv, hz⟩ | ⟨g, cap, cur, hv, hb, hg, hc, hcm, hsz, htake⟩
 ·exact .inl (by omega)
 ·cases hv
  refine .inr ⟨g, 0, rfl, fun i D hi => ?_⟩
  have hlt := (List.getElem?_eq_some_iff.1 hi).1
  obtain ⟨v, hv⟩ : ∃ v, vs[i]? = some v := ⟨vs[i]'(by rw [h3.1]; exact hlt), by simp [h3.1, hlt]⟩
  have hcl := h1.cells (g := g) rfl i _ hv
  rw [Addr.add_mid] at hcl
  exact ⟨v, hcl, (h3.2 i v D hv hi).bkin (hs D (List.mem_of_getElem? hi))⟩
theorem take_snoc {α : Type} {l : List α} {k : Nat} {x : α} (h : l[k]? = some x) : l.take (k + 1) = l.take k ++ [x] := by
 rw [List.take_add_one, h]; rfl
theorem blk_ne {W : World} {g g' : Nat} {L L' : List Value} {t t' : TypeId} (h : Blk W g L t) (h' : Blk W g' L' t') (ht : t ≠ t') : g ≠ g' := by
 rintro rfl
 have : some (Obj.cells L.toArray t (0, 0)) = some (Obj.cells L'.toArray t' (0, 0)) := h.symm.trans h'
 simp at this
 exact ht this.2
theorem blk_not_row {W : World} {g : Nat} {L : List Value} {t e : TypeId} (h : Blk W g L t) (ht : t ≠ e) {B s n : Nat} {v : Value} {xs : List Value} (hr : W.ownsRow B e s v n xs) : v.ownBlock ≠ some g := by
 intro hg
 obtain ⟨cur, hc⟩ := own_at_block hr hg
 have : some (Obj.cells L.toArray t (0, 0)) = some (Obj.cells cur e (0, 0)) := (show W.heap[g]? = _ from h).symm.trans hc
 simp at this
 exact ht this.2
theorem grown_out {w w' : World} {row : Option Nat} (hg : w.grownBy w' row) : Out (fun k => row = some k) w w' := ⟨hg.os, hg.tape, hg.output, hg.size, fun k hk hn => hg.block k hk (fun e => hn e.symm)⟩
/-- A block that no row of another type is, behind an append. -/
theorem Blk.grown {W W' : World} {g : Nat} {L : List Value} {t e : TypeId} (h : Blk W g L t) (ht : t ≠ e) {B s n : Nat} {v : Value} {xs : List Value} (hr : W.ownsRow B e s v n xs) (hg : W.grownBy W' v.ownBlock) : Blk W' g L t :=
 (grown_out hg).blk h (blk_not_row h ht hr)
/-! An append whose run is known: in a walk, in a round, in a row that draws its order. -/
theorem wpListIn_append_run {F : Fence} {n : Nat} {P : Program} {w : World} {ops : Array Oper} {rest : List Oper} {o : Oper} {a : Act} {Q : Exit → Act → World → Prop} (hg : o.guard = none) (s x : Operand) (t t2 : TypeId)
  (hop : o.op = Op.call { callee := Callee.builtin Builtin.append, args := #[s, x], argTypes := #[t, t2] }) (u y : Value) (hs : a.eval s = u) (hx : a.eval x = y) (v' : Value) (w' : World)
  (hrun : (Builtin.append_ #[t, t2] o.type #[u, y]).run P w = .ok v' w') (hK : wpListIn F n P ops Q rest (a.put o.dst v') w') : wpListIn F n P ops Q (o :: rest) a w := by
 refine wpListIn_plain hg fun K hK' => ?_
 unfold Oper.wpIn
 refine ⟨?_, ?_⟩
 ·simp [Oper.about, hop, resolve, Target.leads, Sem.run_pure]
 ·rw [Oper.semAt_plain F _ _ (by rw [hop]; intro c hc'; cases hc')]
  simp [execOp, hop, resolve, invoke, builtin, hs, hx, hrun, Result.andThen]
  exact hK' _ _ hK
theorem wpList_append_run {P : Program} {w : World} {ops : Array Oper} {rest : List Oper} {o : Oper} {a : Act} {Q : Exit → Act → World → Prop} (hg : o.guard = none) (s x : Operand) (t t2 : TypeId)
  (hop : o.op = Op.call { callee := Callee.builtin Builtin.append, args := #[s, x], argTypes := #[t, t2] }) (u y : Value) (hs : a.eval s = u) (hx : a.eval x = y) (v' : Value) (w' : World)
  (hrun : (Builtin.append_ #[t, t2] o.type #[u, y]).run P w = .ok v' w') (hK : wpList P ops Q rest (a.put o.dst v') w') : wpList P ops Q (o :: rest) a w := by
 refine wpList_plain hg fun _ hK' => ?_
 unfold Oper.wp
 simp [execOp, hop, resolve, invoke, builtin, hs, hx, hrun, Result.andThen]
 exact hK' _ _ hK
theorem step_append_run {P : Program} {w : World} {ops : Array Oper} {o : Oper} {a : Act} {K : Act → World → Prop} {Q : Exit → Act → World → Prop} {E : Prop} (hg : o.guard = none) (s x : Operand) (t t2 : TypeId)
  (hop : o.op = Op.call { callee := Callee.builtin Builtin.append, args := #[s, x], argTypes := #[t, t2] }) (u y : Value) (hs : a.eval s = u) (hx : a.eval x = y) (v' : Value) (w' : World)
  (hrun : (Builtin.append_ #[t, t2] o.type #[u, y]).run P w = .ok v' w') (hK : K (a.put o.dst v') w') : if Region.wanted o (yielded ops a.tmps) = true then Oper.wp P o a w K Q else E := by
 have hw : Region.wanted o (yielded ops a.tmps) = true := by simp [Region.wanted, hg]
 rw [if_pos hw]
 unfold Oper.wp
 simp [execOp, hop, resolve, invoke, builtin, hs, hx, hrun, Result.andThen]
 exact hK
/-- One block more in a row. -/
theorem app_row {O : Nat → Prop} {W : World} {v x : Value} {bs : List (List Int)} {D : List Int} (hr : RowAt O W v bs) (hx : BkAt O W x D) (h1 : x.oneCell' = true) (hl : bs.length + 1 ≤ 100000) (hO : ∀ k, W.heap.size ≤ k → O k) :
  ∃ a' c' w', (Builtin.append_ #[100, 100] 100 #[v, .slice (some ⟨W.heap.size, 0, none⟩) 1 1]).run Tryz.prog (W.alloc (.cells #[x] 51)) = .ok (.slice a' (bs.length + 1) c') w' ∧
   RowAt O w' (.slice a' (bs.length + 1) c') (bs ++ [D]) ∧ (W.alloc (.cells #[x] 51)).grownBy w' v.ownBlock ∧ ((Value.slice a' (bs.length + 1) c').ownBlock = v.ownBlock ∨ ∀ g, (Value.slice a' (bs.length + 1) c').ownBlock = some g → W.heap.size ≤ g) := by
 obtain ⟨vs, r1, r2, r3, r4⟩ := hr
 have hc : (W.alloc (.cells #[x] 51)).cell? ⟨W.heap.size, 0, none⟩ = some x := by rw [World.cell?_alloc_mark]; rfl
 have hA := run_app (t := 100) (ty := 100) Tryz.underlying100 Tryz.zero_bytes rfl (by decide) (by decide) (r1.alloc (.cells #[x] 51)) ⟨W.heap.size, 0, none⟩ 1 1 [x] rfl (by
  intro j u hj
  match j, hj with
  | 0, hj =>
   simp at hj
   subst hj
   exact hc) (by intro u hu; simp at hu; subst hu; exact h1) (by omega)
 obtain ⟨v', w', h2, h3, h4, h5⟩ := hA
 obtain ⟨a', c', rfl⟩ := own_slice h3
 have hsz := h4.size
 simp at hsz
 refine ⟨a', c', w', h2, ⟨vs ++ [x], by simpa using h3, ?_, ?_, by simp; omega⟩, h4, ?_⟩
 ·intro r hr
  rcases h5 with h5 | h5
  ·rw [h5] at hr; exact r2 r hr
  ·have := h5 r hr; simp at this; exact hO r (by omega)
 ·have hb : Out Non W (W.alloc (.cells #[x] 51)) := (Out.refl _ _).alloc _
  have hn : ∀ c cur, O c → (W.alloc (.cells #[x] 51)).heap[c]? = some (.cells cur 5 (0, 0)) → ¬ (v.ownBlock = some c) := by
   intro c cur _ hc hv
   obtain ⟨cur', hc'⟩ := own_at_block (r1.alloc (.cells #[x] 51)) hv
   rw [hc] at hc'; cases hc'
  exact ((r3.out hb (fun _ _ _ _ e => e)).out (grown_out h4) hn).snoc ((hx.out hb (fun _ _ _ _ e => e)).out (grown_out h4) hn)
 ·rcases h5 with h5 | h5
  ·exact .inl h5
  ·exact .inr fun g hg => by have := h5 g hg; simp at this; omega
section
attribute [local go_sem] Oper.semAt_some
section
variable {w : World} {q0 g r0 B0 B1 B2 : Nat} {a : Option Addr} {n c S : Nat} {d : Int} {bs : List (List Int)} {k : Nat} {W W' : World}
theorem out_row {O : Nat → Prop} {V : World} {g : Nat} {L : List Value} {t : TypeId} (hg : Blk V g L t) (h1 : t ≠ 51) (h2 : t ≠ 5) (i : Nat) (u : Value) {v : Value} {bs : List (List Int)} (hr : RowAt O V v bs) : RowAt O (V.setCell ⟨g, i, none⟩ u) v bs := by
 have hr' := hr
 obtain ⟨vs, r1, r2, r3, r4⟩ := hr
 refine hr'.out (out_cell V g i u) (fun r e e' => ?_) (fun c cur _ hc e => ?_)
 ·subst e'; exact blk_not_row hg h1 r1 e
 ·subst e
  have : some (Obj.cells L.toArray t (0, 0)) = some (Obj.cells cur 5 (0, 0)) := (show V.heap[c]? = _ from hg).symm.trans hc
  simp at this
  exact h2 this.2
theorem book_app {R : Loop} {l : Nat} {W w' : World} {v : Value} {bs : List (List Int)} {O : Nat → Prop} {o : Obj} (h : Book R l W) (hr : RowAt O W v bs) (hg : (W.alloc o).grownBy w' v.ownBlock) : Book R l w' := by
 obtain ⟨vs, r1, _⟩ := hr
 refine (h.below ((Below.refl _ _).alloc (Nat.le_refl _) o)).out (grown_out hg) (fun j e => ?_)
 obtain ⟨cur, hc⟩ := own_at_block (r1.alloc o) e
 exact ⟨_, _, _, hc⟩
theorem book_cell {R : Loop} {l : Nat} {W : World} {g : Nat} {L : List Value} {t : TypeId} (h : Book R l W) (hg : Blk W g L t) (i : Nat) (u : Value) : Book R l (W.setCell ⟨g, i, none⟩ u) :=
 h.out (out_cell W g i u) (fun j e => by subst e; exact ⟨_, _, _, hg⟩)
end
theorem Tryz.info_zone : (Tryz.prog.info? 102).map (·.size) = some 2 := by kernel_rfl
end
end Go.Proofs.YtcdnjeiamihhbabGreat
