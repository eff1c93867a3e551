/- Texts of this seat, one behind the other: ZRange, ZCut, ZRead, ZCopied. -/
import Derived.RangeFuncNested
import Derived.RangeFuncBound
import Derived.RangeFuncCalls
import Derived.RangeFuncLeaves
import Derived.Shelf.Abstract
import Derived.Shelf.AbstractIn
import Derived.Shelf.RegionOpen
import Derived.OwnWalkIn
import Derived.TacticsInMore
import Derived.LoopNIn
import Derived.LoopIn
import Derived.Test.YtncnkpnfmbgifaaGreatP2
import Derived.Deep.RegionHeld
import Derived.Deep.RegionHeld3
/- A range over a function whose rounds always go on: the iterator and the rounds share what lies in memory. -/
namespace Go.Proofs.YtncnkpnfmbgifaaGreat
open Go.RowKit Go.Shelf
set_option linter.unusedVariables false
set_option maxRecDepth 4000

def Book (R : Loop) (l : Nat) (W : World) : Prop := W.heap[l + 1]? = some (.loop R) ∧ W.heap[l]? = some (.deferred (some []))
theorem Book.out {R : Loop} {l : Nat} {W W' : World} {S : Nat → Prop} (h : Book R l W) (ho : Out S W W') (hS : ∀ j, S j → ∃ c t f, W.heap[j]? = some (.cells c t f)) : Book R l W' := by
 refine ⟨(ho.block _ (Array.getElem?_eq_some_iff.1 h.1).1 (fun e => ?_)).trans h.1, (ho.block _ (Array.getElem?_eq_some_iff.1 h.2).1 (fun e => ?_)).trans h.2⟩
 ·obtain ⟨c, t, f, hc⟩ := hS _ e
  rw [h.1] at hc; cases hc
 ·obtain ⟨c, t, f, hc⟩ := hS _ e
  rw [h.2] at hc; cases hc
theorem Book.below {R : Loop} {l : Nat} {W W' : World} (h : Book R l W) (ho : Below W.heap.size W W') : Book R l W' := h.out (below_out Non ho) (fun _ e => e.elim)
def Calm (l : Nat) (W W' : World) : Prop := (∀ c t f, W.heap[l]? ≠ some (.cells c t f)) ∧ Out (fun j => j = l) W W' ∧ W'.heap.size = W.heap.size
theorem calm_put {l : Nat} {W : World} {r : Loop} (h : W.heap[l]? = some (.loop r)) (o : Obj) : Calm l W (W.putObj l o) :=
 ⟨(fun c t f e => by rw [h] at e; cases e), ⟨rfl, rfl, rfl, by simp, fun k _ hk => World.putObj_heap_other hk⟩, by simp⟩
theorem calm_shut {l : Nat} {W : World} {r : Option (List Deferred)} (h : W.heap[l]? = some (.deferred r)) (o : Obj) : Calm l W (W.putObj l o) :=
 ⟨(fun c t f e => by rw [h] at e; cases e), ⟨rfl, rfl, rfl, by simp, fun k _ hk => World.putObj_heap_other hk⟩, by simp⟩
theorem Calm.blk {l : Nat} {W W' : World} {g : Nat} {L : List Value} {t : TypeId} (h : Calm l W W') (hb : Blk W g L t) : Blk W' g L t :=
 h.2.1.blk hb (fun e => by subst e; exact h.1 _ _ _ hb)
theorem Calm.own {l : Nat} {W W' : World} (h : Calm l W W') {B : Nat} {e : TypeId} {s n : Nat} {v : Value} {xs : List Value} (hr : W.ownsRow B e s v n xs) : W'.ownsRow B e s v n xs :=
 h.2.1.own hr (fun g hg e => by subst e; obtain ⟨cur, hc⟩ := own_at_block hr hg; exact h.1 _ _ _ hc)
theorem Calm.bk {l : Nat} {W W' : World} (h : Calm l W W') {O : Nat → Prop} {u : Value} {D : List Int} (hb : BkAt O W u D) : BkAt O W' u D := ⟨h.own hb.1, hb.2⟩
theorem Calm.bs {l : Nat} {W W' : World} (h : Calm l W W') {O : Nat → Prop} {vs : List Value} {bs : List (List Int)} (hb : BsAt O W vs bs) : BsAt O W' vs bs := ⟨hb.1, fun i u D h1 h2 => h.bk (hb.2 i u D h1 h2)⟩
theorem Calm.row {l : Nat} {W W' : World} (h : Calm l W W') {O : Nat → Prop} {v : Value} {bs : List (List Int)} (hb : RowAt O W v bs) : RowAt O W' v bs := by
 obtain ⟨vs, a, b, c, d⟩ := hb
 exact ⟨vs, h.own a, b, h.bs c, d⟩
theorem Calm.cell {l : Nat} {W W' : World} (h : Calm l W W') {p : Addr} {v : Value} (hc : W.cell? p = some v) : W'.cell? p = some v :=
 h.2.1.cell hc (fun e => by
  unfold World.cell? at hc
  split at hc
  ·rename_i c t f hh; rw [e] at hh; exact h.1 _ _ _ hh
  ·cases hc)
theorem wpIn_range {n : Nat} {P : Program} {g : Operand} {p : Tmp} {assign body : Code} {Q : Exit → Act → World → Prop} {a : Act} {w : World}
  {gf : Nat} {lb : Array Value} (hg : a.eval g = .func (.func gf) #[] lb) (eg : Enters P gf)
  (J : Nat → World → Prop) (J' : Nat → Value → World → Prop) (E : World → Prop)
  (hJ : ∀ k W W', J k W → Calm (w.heap.size + 1) W W' → J k W') (hJ' : ∀ k x W W', J' k x W → Calm (w.heap.size + 1) W W' → J' k x W') (hE : ∀ W W', E W → Calm (w.heap.size + 1) W W' → E W')
  (h0 : ∀ o o', J 0 ((w.alloc o).alloc o'))
  (a₁ : Value → Act)
  (hassign : ∀ (l : Nat) (k : Nat) (x : Value) (W : World) (K : Act → World → Prop), J' k x W → K (a₁ x) W →
   assign.wpIn (Fence.wide.inRound l) (n - 1 - 1) P (Exit.then K (fun _ _ _ => False)) { tmps := (#[p].zip #[x]).foldl (fun t (p, v) => t.setIfInBounds p v) a.tmps, defers := [] } W)
  (hbody : ∀ (l : Nat) (R : Loop) (k : Nat) (x : Value) (W : World), Book R w.heap.size W → J' k x W → body.wpIn (Fence.wide.inRound l) (n - 1 - 1) P (fun e _ W' => e = .normal ∧ Book R w.heap.size W' ∧ J (k + 1) W') (a₁ x) W)
  (hiter : ∀ (R : Loop) (W : World), (∀ k x W1, Book R w.heap.size W1 → J' k x W1 → YieldAt Fence.wide (n - 1 - 1) P (w.heap.size + 1) #[x] W1 fun e W' => e = .returned (.bool true) ∧ Book R w.heap.size W' ∧ J (k + 1) W') →
   Book R w.heap.size W → J 0 W → CallsIn Fence.wide (n - 1) P gf (#[.func (.yield (w.heap.size + 1)) #[] #[]] ++ lb) W fun e W' => (∃ v, e = .returned v) ∧ Book R w.heap.size W' ∧ E W')
  (hdone : ∀ W, E W → W.heap[w.heap.size]? = some (.deferred (some [])) → Q .normal { a with defers := { target := .collected w.heap.size, args := #[] } :: a.defers } W) :
  (Code.rangeFunc g #[p] assign body).wpIn Fence.wide n P Q a w := by
 refine wpIn_rangeFunc ?_
 intro fn hfn
 have hro : Fence.wide.round = none := rfl
 rw [hro]
 obtain ⟨rec, hrec⟩ : ∃ rec : LoopState → Option Code → Loop, rec = fun st pe => { state := st, pending := pe, fn, tmps := a.tmps, params := #[p], assign, body, defers := w.heap.size } := ⟨_, rfl⟩
 obtain ⟨W1, hW1⟩ : ∃ W1, (w.alloc (.deferred (some []))).alloc (.loop (rec .ready none)) = W1 := ⟨_, rfl⟩
 have hL1 : W1.heap[w.heap.size + 1]? = some (.loop (rec .ready none)) := by
  rw [← hW1]; have := World.alloc_heap_new (w.alloc (.deferred (some []))) (.loop (rec .ready none)); rwa [World.size_alloc] at this
 have hK1 : W1.heap[w.heap.size]? = some (.deferred (some [])) := by
  rw [← hW1]; exact (Below.heap_alloc _ _ _ (by simp)).trans (World.alloc_heap_new w _)
 have hI1 : J 0 W1 := by rw [← hW1]; exact h0 _ _
 refine ⟨w.heap.size + 1, [{ target := .collected w.heap.size, args := #[] }], W1, { target := .fn (.func gf) lb, args := #[.func (.yield (w.heap.size + 1)) #[] #[]] }, W1, gf,
  #[.func (.yield (w.heap.size + 1)) #[] #[]] ++ lb, W1, ?_, ?_, ?_, ?_, fun h => by simp [Fence.wide] at h, ?_⟩
 ·rw [← hW1, hrec]; exact run_enterLoop_outer _ _ _ _ _
 ·simp only [resolve, hg]
  simp [go_sem]
 ·intro f' hf'; trivial
 ·have eg' := fun args w => eg args w
  simp [invoke, go_sem, eg']
 ·refine (hiter (rec .ready none) W1 ?_ ⟨hL1, hK1⟩ hI1).mono ?_
  ·rintro k x W ⟨hl, hk⟩ hj
   have hlt : w.heap.size + 1 < W.heap.size := (Array.getElem?_eq_some_iff.1 hl).1
   have hy := run_yield (P := P) (args := #[x]) hl (by rw [hrec]; rfl)
   rw [hrec] at hy
   refine ⟨fn, _, assign, body, hy, roundIn_of_wpIn hfn (hassign _ k x W _ hj ⟨_, run_beginRound hl (by rw [hrec]), ?_⟩)⟩
   have hl2 : (W.putObj (w.heap.size + 1) (.loop { rec .ready none with state := .busy })).heap[w.heap.size + 1]? = some (.loop { rec .ready none with state := .busy }) := World.putObj_heap_same hlt
   have hk2 : (W.putObj (w.heap.size + 1) (.loop { rec .ready none with state := .busy })).heap[w.heap.size]? = some (.deferred (some [])) := (World.putObj_heap_other (by omega)).trans hk
   refine wpIn_mono (hbody _ _ k x _ ⟨hl2, hk2⟩ (hJ' k x _ _ hj (calm_put hl _))) ?_
   rintro e a3 W3 ⟨rfl, ⟨hl3, hk3⟩, hj3⟩
   have hr := run_endRound (P := P) none hl3
   refine ⟨_, _, hr, rfl, ⟨?_, ?_⟩, hJ _ _ _ hj3 (calm_put hl3 _)⟩
   ·rw [World.putObj_heap_same (Array.getElem?_eq_some_iff.1 hl3).1, hrec]; rfl
   ·exact (World.putObj_heap_other (by omega)).trans hk3
  ·rintro e W2 ⟨⟨v, rfl⟩, ⟨hl, hk⟩, he⟩
   exact ⟨none, _, by have := run_endLoop (P := P) hl (by rw [hrec]; simp); rw [hrec] at this; exact this, hdone _ (hE _ _ he (calm_put hl _)) ((World.putObj_heap_other (by omega)).trans hk)⟩
end Go.Proofs.YtncnkpnfmbgifaaGreat

/- What the function that cut tells does, whatever the rounds and the closure do. -/
namespace Go.Proofs.YtncnkpnfmbgifaaGreat
open Go.RowKit Go.Shelf
set_option linter.unusedVariables false
attribute [local go_sem] Oper.semAt_some

structure CutJ (nb : Nat) (a : Option Addr) (c gf : Nat) (lb : Array Value) (B1 B2 : Nat) (bs : List (List Int)) (fit : Nat → Nat) (l : Nat) (R : Loop) (n : Nat) (J JF : Nat → World → Prop) (J' : Nat → Value → World → Prop) : Prop where
 len : bs.length = nb
 small : nb ≤ 100000
 cap : ∀ k W, J k W → W.cell? ⟨B1, 0, none⟩ = some (.slice a nb c) ∧ W.cell? ⟨B2, 0, none⟩ = some (.func (.func gf) #[] lb)
 rd : ∀ k W D, J k W → bs[k]? = some D → ∃ b off A L C, a = some ⟨b, off, none⟩ ∧ W.cell? ⟨b, off + k, none⟩ = some (.slice A L C) ∧ BIn W A L D ∧ L ≤ C ∧ L ≤ 100000
 fits : ∀ k W D A L C, J k W → bs[k]? = some D → BIn W A L D → Book R l W → Calls Tryz.prog gf (#[.slice A L C] ++ lb) W fun e W' => e = .returned (.int .i64 (fit k)) ∧ JF k W' ∧ Book R l W' ∧ BIn W' A L D
 le : ∀ k D, bs[k]? = some D → fit k ≤ D.length
 torn : ∀ k W D x W', JF k W → bs[k]? = some D → 0 < fit k → Below W.heap.size W W' → BkAt (fun k => W.heap.size ≤ k) W' x (tornL D (fit k)) → (∃ g, x = .slice (some ⟨g, 0, none⟩) D.length D.length) → J' k x W'

def CutE (nb : Nat) (fit : Nat → Nat) (l : Nat) (R : Loop) (J JF : Nat → World → Prop) (W' : World) : Prop :=
 Book R l W' ∧ ∃ k, k ≤ nb ∧ (∀ j, j < k → 0 < fit j) ∧ ((k = nb ∧ J k W') ∨ (k < nb ∧ fit k = 0 ∧ JF k W'))

set_option maxRecDepth 100000 in
set_option maxHeartbeats 2000000 in
theorem cut1_of {nb : Nat} {a : Option Addr} {c gf : Nat} {lb : Array Value} {B1 B2 : Nat} {bs : List (List Int)} {fit : Nat → Nat} {l : Nat} {R : Loop} {n : Nat} {J JF : Nat → World → Prop} {J' : Nat → Value → World → Prop}
  (H : CutJ nb a c gf lb B1 B2 bs fit l R n J JF J') (eg : Enters Tryz.prog gf)
  (hY : ∀ k x W1, Book R l W1 → J' k x W1 → YieldAt Fence.wide (n - 1) Tryz.prog (l + 1) #[x] W1 fun e W' => e = .returned (.bool true) ∧ Book R l W' ∧ J (k + 1) W')
  (W : World) (hB : Book R l W) (h0 : J 0 W) :
  CallsIn Fence.wide n Tryz.prog 215 #[.func (.yield (l + 1)) #[] #[], .pointer (some ⟨B1, 0, none⟩), .pointer (some ⟨B2, 0, none⟩)] W fun e W' => (∃ v, e = .returned v) ∧ CutE nb fit l R J JF W' := by
 obtain ⟨c1, c2⟩ := H.cap 0 W h0
 refine callsIn_of_wp Tryz.func215 rfl trivial ?_ rfl
 simp only [Tryz.ntmps215, List.size_toArray, List.length_cons, List.length_nil, Nat.reduceAdd, Nat.reduceSub, Array.replicate_succ, Array.replicate_zero, List.push_toArray, List.append_toArray, List.nil_append, List.cons_append]
 have hfw : ∀ f, Fence.wide.fn f = True := fun _ => rfl
 have hdw : Fence.wide.depth.isSome = false := rfl
 have eg' : ∀ args w, (callFunc gf args).run Tryz.prog w = .ok (.enter gf args) w := eg
 have HH : Hid (CutJ nb a c gf lb B1 B2 bs fit l R n J JF J' ∧ Book R l W ∧ J 0 W) := ⟨H, hB, h0⟩
 have HY : Hid (∀ k x W1, Book R l W1 → J' k x W1 → YieldAt Fence.wide (n - 1) Tryz.prog (l + 1) #[x] W1 fun e W' => e = .returned (.bool true) ∧ Book R l W' ∧ J (k + 1) W') := hY
 clear H hB h0 hY
 gi_wp2
 gi_loopw [9] (fun i wr => ∃ k : Nat, i = .int .i64 k ∧ k ≤ nb ∧ (∀ j, j < k → 0 < fit j) ∧ Book R l wr ∧ J k wr) (fun i wr => nb - (intOf i).toNat)
 case atStart =>
  exact ⟨0, rfl, Nat.zero_le _, by simp, HH.out.2.1, HH.out.2.2⟩
 case round =>
  obtain ⟨k, rfl, hk, hpos, hbk, hj⟩ := hrel
  obtain ⟨c3, c4⟩ := HH.out.1.cap k _ hj
  rcases Nat.lt_or_ge k nb with hlt | hge
  ·obtain ⟨D, hD⟩ : ∃ D, bs[k]? = some D := ⟨bs[k]'(by rw [HH.out.1.len]; exact hlt), by simp [HH.out.1.len, hlt]⟩
   obtain ⟨b, off, A, L, C, rfl, hc, hin, hLC, hL⟩ := HH.out.1.rd k _ D hj hD
   have hw : IntKind.i64.wrap ((k : Int) + 1) = (k : Int) + 1 := by have := HH.out.1.small; rw [IntKind.wrap_i64]; omega
   obtain ⟨N, hN⟩ : ∃ N, N = fit k := ⟨_, rfl⟩
   have hf := HH.out.1.fits k wr D A L C hj hD hin hbk
   rw [← hN] at hf
   have HN : Hid (N = fit k ∧ bs[k]? = some D ∧ (∀ j, j < k → 0 < fit j) ∧ k < nb) := ⟨hN, hD, hpos, hlt⟩
   have hle := HH.out.1.le k D hD
   rw [← hN, hin.1] at hle
   have HL : Hid (N ≤ L ∧ L ≤ C ∧ L ≤ 100000) := ⟨hle, hLC, hL⟩
   have HF : Hid (Calls Tryz.prog gf (#[.slice A L C] ++ lb) wr fun e W' => e = .returned (.int .i64 N) ∧ JF k W' ∧ Book R l W' ∧ BIn W' A L D) := hf
   clear hN hD hpos hle hLC hL hf hk hbk hj hin
   rcases Nat.eq_zero_or_pos N with rfl | hN0
   ·gi_wp2_with (gi_at_fn gf; refine (callsIn_wide.2 HF.out).mono ?_; rintro e W2 ⟨rfl, hjf, hbk2, hin2⟩)
    refine bodyPost_ret (results_none rfl _ _ _) rfl ?_
    exact ⟨⟨_, rfl⟩, hbk2, k, by have := HN.out.2.2.2; omega, HN.out.2.2.1, .inr ⟨HN.out.2.2.2, HN.out.1.symm, hjf⟩⟩
   ·have hne : ((N : Int) == 0) = false := by simp; omega
    have hlt' := HN.out.2.2.2
    have HP : Hid (0 < N) := hN0
    clear hN0
    gi_wp2_with (first
     | (gi_at_fn gf; refine (callsIn_wide.2 HF.out).mono ?_; rintro e W2 ⟨rfl, hjf, hbk2, hin2⟩)
     | (gi_at_call 216; refine (callsIn_wide.2 (torn_of A L C N D W2 hin2 HL.out.1 HL.out.2.1 HL.out.2.2)).mono ?_; rintro e W3 ⟨x, rfl, hx1, hx2, gx, rfl, hx3⟩; obtain ⟨fn, tmps, assign, body, hy, hR⟩ := HY.out k _ W3 (hbk2.below hx2) (HH.out.1.torn k W2 D _ W3 hjf HN.out.2.1 (by rw [← HN.out.1]; exact HP.out) hx2 (by rw [← HN.out.1]; exact hx1) ⟨gx, rfl⟩)))
    refine hR.mono ?_
    rintro e W4 ⟨rfl, hbk4, hj4⟩
    have HJ : Hid (Book R l W4 ∧ J (k + 1) W4) := ⟨hbk4, hj4⟩
    clear hR hy hbk4 hj4 hjf hbk2 hin2 hx1 hx2 hx3
    gi_wp2
    go_roundw
    case rel =>
     refine ⟨k + 1, by simp, by omega, fun j hj => ?_, HJ.out.1, HJ.out.2⟩
     rcases Nat.lt_or_ge j k with h | h
     ·exact HN.out.2.2.1 j h
     ·obtain rfl : j = k := by omega
      rw [← HN.out.1]; exact HP.out
    case measure => simp [intOf]; omega
  ·have hkn : k = nb := by omega
   subst hkn
   gi_wp2
   go_end0
   exact ⟨⟨_, rfl⟩, hbk, k, hk, hpos, .inl ⟨rfl, hj⟩⟩
end Go.Proofs.YtncnkpnfmbgifaaGreat

/- Rows of blocks that are read: from wherever they come. -/
namespace Go.Proofs.YtncnkpnfmbgifaaGreat
open Go.RowKit Go.Shelf
set_option linter.unusedVariables false
set_option maxRecDepth 4000

def BkIn (W : World) (v : Value) (D : List Int) : Prop := ∃ A L C, v = .slice A L C ∧ BIn W A L D ∧ (A = none → L = 0 ∧ C = 0) ∧ L ≤ C ∧ L ≤ 100000
def BsIn (W : World) (a : Option Addr) (n : Nat) (bs : List (List Int)) : Prop :=
 bs.length = n ∧ n ≤ 100000 ∧ (n = 0 ∨ ∃ b off, a = some ⟨b, off, none⟩ ∧ ∀ (i : Nat) (D : List Int), bs[i]? = some D → ∃ v, W.cell? ⟨b, off + i, none⟩ = some v ∧ BkIn W v D)
theorem BkIn.below {w w' : World} {v : Value} {D : List Int} (h : BkIn w v D) (hb : Below w.heap.size w w') : BkIn w' v D := by
 obtain ⟨A, L, C, h1, h2, h3⟩ := h
 exact ⟨A, L, C, h1, h2.below hb, h3⟩
theorem BsIn.below {w w' : World} {a : Option Addr} {n : Nat} {bs : List (List Int)} (h : BsIn w a n bs) (hb : Below w.heap.size w w') : BsIn w' a n bs := by
 obtain ⟨h1, h2, h3⟩ := h
 refine ⟨h1, h2, ?_⟩
 rcases h3 with h3 | ⟨b, off, ha, hc⟩
 ·exact .inl h3
 ·refine .inr ⟨b, off, ha, fun i D hi => ?_⟩
  obtain ⟨v, h4, h5⟩ := hc i D hi
  exact ⟨v, by rw [hb.cell (old_block h4)]; exact h4, h5.below hb⟩
theorem own_cap {w : World} {B : Nat} {e : TypeId} {s n : Nat} {a : Option Addr} {m c : Nat} {xs : List Value} (h : w.ownsRow B e s (.slice a m c) n xs) : m ≤ c ∧ m = n := by
 rcases h.2 with ⟨hv, hn⟩ | ⟨g, cap, cur, hv, _, _, hc, _⟩
 ·cases hv; exact ⟨Nat.le_refl _, by omega⟩
 ·cases hv; exact ⟨hc, rfl⟩
theorem BkAt.bkin {O : Nat → Prop} {W : World} {v : Value} {D : List Int} (h : BkAt O W v D) (hd : D.length ≤ 100000) : BkIn W v D := by
 obtain ⟨a, c, rfl⟩ := own_slice h.1
 obtain ⟨h1, h2, h3⟩ := h.bin
 exact ⟨a, D.length, c, rfl, h1, h2, (own_cap h.1).1, hd⟩
def Short (bs : List (List Int)) : Prop := ∀ D ∈ bs, D.length ≤ 100000
theorem RowAt.bsin {O : Nat → Prop} {W : World} {a : Option Addr} {n c : Nat} {bs : List (List Int)} (h : RowAt O W (.slice a n c) bs) (hs : Short bs) : BsIn W a n bs := by
 obtain ⟨vs, h1, h2, h3, h4⟩ := h
 have hn : n = bs.length := (own_cap h1).2
 refine ⟨hn.symm, by omega, ?_⟩
 rcases h1.2 with ⟨hv, hz⟩ | ⟨g, cap, cur, hv, hb, hg, hc, hcm, hsz, htake⟩
 ·exact .inl (by omega)
 ·cases hv
  refine .inr ⟨g, 0, rfl, fun i D hi => ?_⟩
  have hlt := (List.getElem?_eq_some_iff.1 hi).1
  obtain ⟨v, hv⟩ : ∃ v, vs[i]? = some v := ⟨vs[i]'(by rw [h3.1]; exact hlt), by simp [h3.1, hlt]⟩
  have hcl := h1.cells (g := g) rfl i _ hv
  rw [Addr.add_mid] at hcl
  exact ⟨v, hcl, (h3.2 i v D hv hi).bkin (hs D (List.mem_of_getElem? hi))⟩
theorem take_snoc {α : Type} {l : List α} {k : Nat} {x : α} (h : l[k]? = some x) : l.take (k + 1) = l.take k ++ [x] := by
 rw [List.take_add_one, h]; rfl
theorem blk_ne {W : World} {g g' : Nat} {L L' : List Value} {t t' : TypeId} (h : Blk W g L t) (h' : Blk W g' L' t') (ht : t ≠ t') : g ≠ g' := by
 rintro rfl
 have : some (Obj.cells L.toArray t (0, 0)) = some (Obj.cells L'.toArray t' (0, 0)) := h.symm.trans h'
 simp at this
 exact ht this.2
theorem blk_not_row {W : World} {g : Nat} {L : List Value} {t e : TypeId} (h : Blk W g L t) (ht : t ≠ e) {B s n : Nat} {v : Value} {xs : List Value} (hr : W.ownsRow B e s v n xs) : v.ownBlock ≠ some g := by
 intro hg
 obtain ⟨cur, hc⟩ := own_at_block hr hg
 have : some (Obj.cells L.toArray t (0, 0)) = some (Obj.cells cur e (0, 0)) := (show W.heap[g]? = _ from h).symm.trans hc
 simp at this
 exact ht this.2
theorem grown_out {w w' : World} {row : Option Nat} (hg : w.grownBy w' row) : Out (fun k => row = some k) w w' := ⟨hg.os, hg.tape, hg.output, hg.size, fun k hk hn => hg.block k hk (fun e => hn e.symm)⟩
theorem Blk.grown {W W' : World} {g : Nat} {L : List Value} {t e : TypeId} (h : Blk W g L t) (ht : t ≠ e) {B s n : Nat} {v : Value} {xs : List Value} (hr : W.ownsRow B e s v n xs) (hg : W.grownBy W' v.ownBlock) : Blk W' g L t :=
 (grown_out hg).blk h (blk_not_row h ht hr)

theorem wpListIn_append_run {F : Fence} {n : Nat} {P : Program} {w : World} {ops : Array Oper} {rest : List Oper} {o : Oper} {a : Act} {Q : Exit → Act → World → Prop} (hg : o.guard = none) (s x : Operand) (t t2 : TypeId)
  (hop : o.op = Op.call { callee := Callee.builtin Builtin.append, args := #[s, x], argTypes := #[t, t2] }) (u y : Value) (hs : a.eval s = u) (hx : a.eval x = y) (v' : Value) (w' : World)
  (hrun : (Builtin.append_ #[t, t2] o.type #[u, y]).run P w = .ok v' w') (hK : wpListIn F n P ops Q rest (a.put o.dst v') w') : wpListIn F n P ops Q (o :: rest) a w := by
 refine wpListIn_plain hg fun K hK' => ?_
 unfold Oper.wpIn
 refine ⟨?_, ?_⟩
 ·simp [Oper.about, hop, resolve, Target.leads, Sem.run_pure]
 ·rw [Oper.semAt_plain F _ _ (by rw [hop]; intro c hc'; cases hc')]
  simp [execOp, hop, resolve, invoke, builtin, hs, hx, hrun, Result.andThen]
  exact hK' _ _ hK
theorem wpList_append_run {P : Program} {w : World} {ops : Array Oper} {rest : List Oper} {o : Oper} {a : Act} {Q : Exit → Act → World → Prop} (hg : o.guard = none) (s x : Operand) (t t2 : TypeId)
  (hop : o.op = Op.call { callee := Callee.builtin Builtin.append, args := #[s, x], argTypes := #[t, t2] }) (u y : Value) (hs : a.eval s = u) (hx : a.eval x = y) (v' : Value) (w' : World)
  (hrun : (Builtin.append_ #[t, t2] o.type #[u, y]).run P w = .ok v' w') (hK : wpList P ops Q rest (a.put o.dst v') w') : wpList P ops Q (o :: rest) a w := by
 refine wpList_plain hg fun _ hK' => ?_
 unfold Oper.wp
 simp [execOp, hop, resolve, invoke, builtin, hs, hx, hrun, Result.andThen]
 exact hK' _ _ hK
theorem step_append_run {P : Program} {w : World} {ops : Array Oper} {o : Oper} {a : Act} {K : Act → World → Prop} {Q : Exit → Act → World → Prop} {E : Prop} (hg : o.guard = none) (s x : Operand) (t t2 : TypeId)
  (hop : o.op = Op.call { callee := Callee.builtin Builtin.append, args := #[s, x], argTypes := #[t, t2] }) (u y : Value) (hs : a.eval s = u) (hx : a.eval x = y) (v' : Value) (w' : World)
  (hrun : (Builtin.append_ #[t, t2] o.type #[u, y]).run P w = .ok v' w') (hK : K (a.put o.dst v') w') : if Region.wanted o (yielded ops a.tmps) = true then Oper.wp P o a w K Q else E := by
 have hw : Region.wanted o (yielded ops a.tmps) = true := by simp [Region.wanted, hg]
 rw [if_pos hw]
 unfold Oper.wp
 simp [execOp, hop, resolve, invoke, builtin, hs, hx, hrun, Result.andThen]
 exact hK

theorem app_row {O : Nat → Prop} {W : World} {v x : Value} {bs : List (List Int)} {D : List Int} (hr : RowAt O W v bs) (hx : BkAt O W x D) (h1 : x.oneCell' = true) (hl : bs.length + 1 ≤ 100000) (hO : ∀ k, W.heap.size ≤ k → O k) :
  ∃ a' c' w', (Builtin.append_ #[42, 42] 42 #[v, .slice (some ⟨W.heap.size, 0, none⟩) 1 1]).run Tryz.prog (W.alloc (.cells #[x] 43)) = .ok (.slice a' (bs.length + 1) c') w' ∧
   RowAt O w' (.slice a' (bs.length + 1) c') (bs ++ [D]) ∧ (W.alloc (.cells #[x] 43)).grownBy w' v.ownBlock ∧ ((Value.slice a' (bs.length + 1) c').ownBlock = v.ownBlock ∨ ∀ g, (Value.slice a' (bs.length + 1) c').ownBlock = some g → W.heap.size ≤ g) := by
 obtain ⟨vs, r1, r2, r3, r4⟩ := hr
 have hc : (W.alloc (.cells #[x] 43)).cell? ⟨W.heap.size, 0, none⟩ = some x := by rw [World.cell?_alloc_mark]; rfl
 have hA := run_app (t := 42) (ty := 42) Tryz.underlying42 Tryz.zero_bytes rfl (by decide) (by decide) (r1.alloc (.cells #[x] 43)) ⟨W.heap.size, 0, none⟩ 1 1 [x] rfl (by
  intro j u hj
  match j, hj with
  | 0, hj =>
   simp at hj
   subst hj
   exact hc) (by intro u hu; simp at hu; subst hu; exact h1) (by omega)
 obtain ⟨v', w', h2, h3, h4, h5⟩ := hA
 obtain ⟨a', c', rfl⟩ := own_slice h3
 have hsz := h4.size
 simp at hsz
 refine ⟨a', c', w', h2, ⟨vs ++ [x], by simpa using h3, ?_, ?_, by simp; omega⟩, h4, ?_⟩
 ·intro r hr
  rcases h5 with h5 | h5
  ·rw [h5] at hr; exact r2 r hr
  ·have := h5 r hr; simp at this; exact hO r (by omega)
 ·have hb : Out Non W (W.alloc (.cells #[x] 43)) := (Out.refl _ _).alloc _
  have hn : ∀ c cur, O c → (W.alloc (.cells #[x] 43)).heap[c]? = some (.cells cur 5 (0, 0)) → ¬ (v.ownBlock = some c) := by
   intro c cur _ hc hv
   obtain ⟨cur', hc'⟩ := own_at_block (r1.alloc (.cells #[x] 43)) hv
   rw [hc] at hc'; cases hc'
  exact ((r3.out hb (fun _ _ _ _ e => e)).out (grown_out h4) hn).snoc ((hx.out hb (fun _ _ _ _ e => e)).out (grown_out h4) hn)
 ·rcases h5 with h5 | h5
  ·exact .inl h5
  ·exact .inr fun g hg => by have := h5 g hg; simp at this; omega
end Go.Proofs.YtncnkpnfmbgifaaGreat

/- What one call of copied does. -/
namespace Go.Proofs.YtncnkpnfmbgifaaGreat
open Go.RowKit Go.Shelf
set_option linter.unusedVariables false
set_option maxRecDepth 4000
attribute [local go_sem] Oper.semAt_some

def cutW (S : Nat) (bs : List (List Int)) : List (List Int) := bs.takeWhile (fun D => D.length == S)
def wFit (S : Nat) (bs : List (List Int)) (k : Nat) : Nat := if (bs.getD k []).length = S then S else 0
theorem wFit_at {S : Nat} {bs : List (List Int)} {k : Nat} {D : List Int} (h : bs[k]? = some D) : wFit S bs k = if D.length = S then S else 0 := by
 simp [wFit, List.getD, h]
theorem cutW_take {S : Nat} : ∀ (bs : List (List Int)) (k : Nat), k ≤ bs.length → (∀ j, j < k → 0 < wFit S bs j) → (k = bs.length ∨ (k < bs.length ∧ wFit S bs k = 0)) → 0 < S → bs.take k = cutW S bs
 | [], k, hk, _, _, _ => by simp [cutW]
 | D :: bs, 0, hk, hp, he, hS => by
  rcases he with he | ⟨_, he⟩
  ·simp at he
  ·have : ¬ D.length = S := by
    intro e
    rw [wFit_at (D := D) rfl, if_pos e] at he
    omega
   simp [cutW, this]
 | D :: bs, k + 1, hk, hp, he, hS => by
  have h0 := hp 0 (by omega)
  rw [wFit_at (D := D) rfl] at h0
  have hD : D.length = S := by
   rcases Nat.lt_or_ge 0 S with h | h
   ·by_cases e : D.length = S
    ·exact e
    ·rw [if_neg e] at h0; omega
   ·omega
  have hsh : ∀ j, wFit S (D :: bs) (j + 1) = wFit S bs j := fun j => by simp [wFit]
  have ih := cutW_take bs k (by simpa using hk) (fun j hj => by rw [← hsh]; exact hp (j + 1) (by omega)) (by
   rcases he with he | ⟨he1, he2⟩
   ·exact .inl (by simpa using he)
   ·exact .inr ⟨by simpa using he1, by rw [← hsh]; exact he2⟩) hS
  simp only [List.take_succ_cons, ih, cutW, hD, List.takeWhile_cons]
  simp

structure CpSt (w : World) (q0 g r0 B0 B1 B2 : Nat) (a : Option Addr) (n c S : Nat) (d : Int) (bs : List (List Int)) (k : Nat) (W : World) : Prop where
 below : Below q0 w W
 b0 : Blk W B0 [.int .i64 S] 3
 b1 : Blk W B1 [.slice a n c] 42
 b2 : Blk W B2 [.func (.func 217) #[] #[.pointer (some ⟨B0, 0, none⟩)]] 199
 r : Blk W r0 [.slice none 0 0, .int .i64 0] 120
 o : ∃ v, Blk W g [v, .int .i64 d] 120 ∧ RowAt (fun j => q0 ≤ j) W v (bs.take k)
 ne : g ≠ r0 ∧ q0 ≤ g ∧ q0 ≤ r0

section
variable {w : World} {q0 g r0 B0 B1 B2 : Nat} {a : Option Addr} {n c S : Nat} {d : Int} {bs : List (List Int)} {k : Nat} {W W' : World}
theorem CpSt.under (h : CpSt w q0 g r0 B0 B1 B2 a n c S d bs k W) (hb : Below W.heap.size W W') : CpSt w q0 g r0 B0 B1 B2 a n c S d bs k W' := by
 obtain ⟨v, o1, o2⟩ := h.o
 have ho := below_out Non hb
 exact ⟨h.below.trans (hb.mono (by have := o1.lt; have := h.ne.2.1; omega)), ho.blk h.b0 id, ho.blk h.b1 id, ho.blk h.b2 id, ho.blk h.r id, ⟨v, ho.blk o1 id, o2.out ho (fun _ _ => id) (fun _ _ _ _ => id)⟩, h.ne⟩
theorem CpSt.calm {l : Nat} (h : CpSt w q0 g r0 B0 B1 B2 a n c S d bs k W) (hc : Calm l W W') (hl : q0 ≤ l) : CpSt w q0 g r0 B0 B1 B2 a n c S d bs k W' := by
 obtain ⟨v, o1, o2⟩ := h.o
 refine ⟨h.below.trans (hc.2.1.below (by have := o1.lt; have := h.ne.2.1; omega) (fun j e => by omega)), hc.blk h.b0, hc.blk h.b1, hc.blk h.b2, hc.blk h.r, ⟨v, hc.blk o1, hc.row o2⟩, h.ne⟩
theorem out_row {O : Nat → Prop} {V : World} {g : Nat} {L : List Value} {t : TypeId} (hg : Blk V g L t) (h1 : t ≠ 43) (h2 : t ≠ 5) (i : Nat) (u : Value) {v : Value} {bs : List (List Int)} (hr : RowAt O V v bs) : RowAt O (V.setCell ⟨g, i, none⟩ u) v bs := by
 have hr' := hr
 obtain ⟨vs, r1, r2, r3, r4⟩ := hr
 refine hr'.out (out_cell V g i u) (fun r e e' => ?_) (fun c cur _ hc e => ?_)
 ·subst e'; exact blk_not_row hg h1 r1 e
 ·subst e
  have : some (Obj.cells L.toArray t (0, 0)) = some (Obj.cells cur 5 (0, 0)) := (show V.heap[c]? = _ from hg).symm.trans hc
  simp at this
  exact h2 this.2
theorem book_app {R : Loop} {l : Nat} {W w' : World} {v : Value} {bs : List (List Int)} {O : Nat → Prop} {o : Obj} (h : Book R l W) (hr : RowAt O W v bs) (hg : (W.alloc o).grownBy w' v.ownBlock) : Book R l w' := by
 obtain ⟨vs, r1, _⟩ := hr
 refine (h.below ((Below.refl _ _).alloc (Nat.le_refl _) o)).out (grown_out hg) (fun j e => ?_)
 obtain ⟨cur, hc⟩ := own_at_block (r1.alloc o) e
 exact ⟨_, _, _, hc⟩
theorem book_cell {R : Loop} {l : Nat} {W : World} {g : Nat} {L : List Value} {t : TypeId} (h : Book R l W) (hg : Blk W g L t) (i : Nat) (u : Value) : Book R l (W.setCell ⟨g, i, none⟩ u) :=
 h.out (out_cell W g i u) (fun j e => by subst e; exact ⟨_, _, _, hg⟩)
theorem CpSt.app {R : Loop} {l : Nat} (h : CpSt w q0 g r0 B0 B1 B2 a n c S d bs k W) (hbk : Book R l W) {D : List Int} (hD : bs[k]? = some D) {v v' : Value} {o : Obj} {w' : World} (hr : RowAt (fun j => q0 ≤ j) W v (bs.take k)) (hv : Blk W g [v, .int .i64 d] 120)
  (hg : (W.alloc o).grownBy w' v.ownBlock) (h2 : RowAt (fun j => q0 ≤ j) w' v' (bs.take k ++ [D])) : CpSt w q0 g r0 B0 B1 B2 a n c S d bs (k + 1) (w'.setCell ⟨g, 0, none⟩ v') ∧ Book R l (w'.setCell ⟨g, 0, none⟩ v') := by
 obtain ⟨vs, r1, r2, _⟩ := id hr
 have g1 : Blk w' g [v, .int .i64 d] 120 := (hv.alloc o).grown (by decide) (r1.alloc o) hg
 have k0 : Blk w' B0 _ _ := (h.b0.alloc o).grown (by decide) (r1.alloc o) hg
 have k1 : Blk w' B1 _ _ := (h.b1.alloc o).grown (by decide) (r1.alloc o) hg
 have k2 : Blk w' B2 _ _ := (h.b2.alloc o).grown (by decide) (r1.alloc o) hg
 have k3 : Blk w' r0 _ _ := (h.r.alloc o).grown (by decide) (r1.alloc o) hg
 have lt := hv.lt
 have ne := h.ne
 refine ⟨⟨?_, k0.set_other (blk_ne k0 g1 (by decide)) _, k1.set_other (blk_ne k1 g1 (by decide)) _, k2.set_other (blk_ne k2 g1 (by decide)) _, k3.set_other (by intro e; exact ne.1 e.symm) _, ⟨v', g1.set 0 v', ?_⟩, h.ne⟩, book_cell (book_app hbk hr hg) g1 0 v'⟩
 ·exact (((h.below.alloc (by omega) o).grown hg (by simp; omega) (fun j hj => r2 j hj)).setCell (p := ⟨g, 0, none⟩) ne.2.1 v')
 ·rw [take_snoc hD]
  exact out_row g1 (by decide) (by decide) 0 v' h2
end

theorem Tryz.info_zone : (Tryz.prog.info? 120).map (·.size) = some 2 := by kernel_rfl
def Copied (w : World) (bs : List (List Int)) (S : Nat) (d : Int) (e : Ending) (w' : World) : Prop :=
 ∃ v, e = .returned (.agg #[v, .int .i64 d]) ∧ RowAt (fun j => w.heap.size ≤ j) w' v (cutW S bs) ∧ Below w.heap.size w w'

set_option maxHeartbeats 2000000 in
theorem copied_of (a : Option Addr) (n c S : Nat) (d : Int) (bs : List (List Int)) (w : World) (hb : BsIn w a n bs) (hS : 0 < S) (hS' : S ≤ 100000) :
  Calls Tryz.prog 150 #[.agg #[.slice a n c, .int .i64 d], .int .i64 S] w (Copied w bs S d) := by
 obtain ⟨q, hq⟩ : ∃ q, q = w.heap.size := ⟨_, rfl⟩
 refine (callsIn_wide (n := 5)).1 (callsIn_of_wp_marks Tryz.func150 rfl trivial (wpIn_wide.2 ?_))
 simp only [Tryz.ntmps150, List.size_toArray, List.length_cons, List.length_nil, Nat.reduceAdd, Nat.reduceSub, Array.replicate_succ, Array.replicate_zero, List.push_toArray, List.append_toArray, List.nil_append, List.cons_append]
 have HB : Hid (BsIn w a n bs ∧ 0 < S ∧ S ≤ 100000 ∧ q = w.heap.size) := ⟨hb, hS, hS', hq⟩
 clear hb hS hS'
 go_upto_region 2 with fail
 rw [← hq]
 have HW : Hid (Blk (((w.alloc (.cells #[.slice a n c, .int .i64 d] 120)).alloc (.cells #[.slice none 0 0, .int .i64 0] 120)).alloc (.cells #[.slice none 0 0, .int .i64 d] 120)) q [.slice a n c, .int .i64 d] 120 ∧
   Blk (((w.alloc (.cells #[.slice a n c, .int .i64 d] 120)).alloc (.cells #[.slice none 0 0, .int .i64 0] 120)).alloc (.cells #[.slice none 0 0, .int .i64 d] 120)) (q + 1) [.slice none 0 0, .int .i64 0] 120 ∧
   Blk (((w.alloc (.cells #[.slice a n c, .int .i64 d] 120)).alloc (.cells #[.slice none 0 0, .int .i64 0] 120)).alloc (.cells #[.slice none 0 0, .int .i64 d] 120)) (q + 1 + 1) [.slice none 0 0, .int .i64 d] 120 ∧
   Below q w (((w.alloc (.cells #[.slice a n c, .int .i64 d] 120)).alloc (.cells #[.slice none 0 0, .int .i64 0] 120)).alloc (.cells #[.slice none 0 0, .int .i64 d] 120)) ∧
   (((w.alloc (.cells #[.slice a n c, .int .i64 d] 120)).alloc (.cells #[.slice none 0 0, .int .i64 0] 120)).alloc (.cells #[.slice none 0 0, .int .i64 d] 120)).heap.size = q + 3) :=
  ⟨((Blk.new' hq.symm rfl).alloc _).alloc _, (Blk.new' (by simp [hq]) rfl).alloc _, Blk.new' (by simp [hq]) rfl, (((Below.refl q w).alloc (by omega) _).alloc (by simp [hq]) _).alloc (by simp [hq]; omega) _, by simp [hq]⟩
 generalize hW : World.alloc _ _ = W1 at HW ⊢
 have c0 : W1.cell? ⟨q, 0, none⟩ = some (.slice a n c) := HW.out.1.cell 0
 have hsz : W1.heap.size = q + 3 := HW.out.2.2.2.2
 clear hW hq
 refine wp_region_noPanic ?_
 go_region_law (first
  | (go_simp; go_at_call 193; refine (whole_of S _).mono ?_; rintro e w2 ⟨rfl, rfl⟩)
  | (go_simp; go_at_call 192; refine (cut_of a n c 217 _ _).mono ?_; rintro e w2 ⟨rfl, rfl⟩))
 all_goals
  have HV : Hid (CpSt w q (q + 1 + 1) (q + 1) (q + 3) (q + 3 + 1) (q + 3 + 1 + 1) a n c S d bs 0 (((W1.alloc (.cells #[.int .i64 S] 3)).alloc (.cells #[.slice a n c] 42)).alloc (.cells #[.func (.func 217) #[] #[.pointer (some ⟨q + 3, 0, none⟩)]] 199)).drew) := by
   obtain ⟨h1, h2, h3, h4, h5⟩ := HW.out
   refine ⟨(((h4.alloc (by omega) _).alloc (by simp; omega) _).alloc (by simp; omega) _).drew, ((Blk.new' hsz rfl).alloc _).alloc _, (Blk.new' (by simp [hsz]) rfl).alloc _, Blk.new' (by simp [hsz]) rfl, ((h2.alloc _).alloc _).alloc _, ⟨_, ((h3.alloc _).alloc _).alloc _, RowAt.nil _ _⟩, by omega⟩
  have hsz2 : ((((W1.alloc (.cells #[.int .i64 S] 3)).alloc (.cells #[.slice a n c] 42)).alloc (.cells #[.func (.func 217) #[] #[.pointer (some ⟨q + 3, 0, none⟩)]] 199)).drew).heap.size = q + 6 := by simp [hsz]
  generalize hW2 : World.drew _ = W2 at HV hsz2 ⊢
  clear hW2 c0 hsz HW
  refine NoPanic.normal ?_
  go_wp2
  refine wpIn_wide.1 (wpIn_range (n := 5) (gf := 215) (lb := #[.pointer (some ⟨q + 3 + 1, 0, none⟩), .pointer (some ⟨q + 3 + 1 + 1, 0, none⟩)]) rfl (enters_of Tryz.func215 (by kernel_rfl) rfl)
   (CpSt w q (q + 1 + 1) (q + 1) (q + 3) (q + 3 + 1) (q + 3 + 1 + 1) a n c S d bs)
   (fun k x W => CpSt w q (q + 1 + 1) (q + 1) (q + 3) (q + 3 + 1) (q + 3 + 1 + 1) a n c S d bs k W ∧ ∃ D, bs[k]? = some D ∧ BkAt (fun j => q ≤ j) W x D ∧ ∃ gx m, x = .slice (some ⟨gx, 0, none⟩) m m)
   (fun W => ∃ k, CpSt w q (q + 1 + 1) (q + 1) (q + 3) (q + 3 + 1) (q + 3 + 1 + 1) a n c S d bs k W ∧ bs.take k = cutW S bs)
   (fun k W W' h hc => h.calm hc (by omega)) (fun k x W W' h hc => ⟨h.1.calm hc (by omega), by obtain ⟨D, h1, h2, h3⟩ := h.2; exact ⟨D, h1, hc.bk h2, h3⟩⟩) (fun W W' h hc => by obtain ⟨k, h1, h2⟩ := h; exact ⟨k, h1.calm hc (by omega), h2⟩)
   (fun o o' => HV.out.under (((Below.refl _ _).alloc (Nat.le_refl _) _).alloc (by simp) _))
   (fun x => { tmps := #[.agg #[.slice a n c, .int .i64 d], .int .i64 S, .pointer (some ⟨q, 0, none⟩), undef, .pointer (some ⟨q + 1, 0, none⟩), .pointer (some ⟨q + 1 + 1, 0, none⟩), x, .pointer (some ⟨q, 1, none⟩), .int .i64 d, .agg #[.slice none 0 0, .int .i64 d], .pointer (some ⟨q, 0, none⟩), .slice a n c, .int .i64 S,
     .func (.func 217) #[] #[.pointer (some ⟨q + 3, 0, none⟩)], .func (.func 215) #[] #[.pointer (some ⟨q + 3 + 1, 0, none⟩), .pointer (some ⟨q + 3 + 1 + 1, 0, none⟩)], x, undef, undef, undef, undef, undef, undef, undef], defers := [] }) ?assign ?body ?iter ?done)
  case assign =>
   rintro l k x W K ⟨_, D, _, _, gx, m, rfl⟩ hK
   gi_wp2
   exact hK
  case body =>
   rintro l R k x W hbk ⟨hst, D, hD, hx, gx, m, rfl⟩
   obtain ⟨v, o1, o2⟩ := hst.o
   have hl : (bs.take k).length = k := by have := (List.getElem?_eq_some_iff.1 hD).1; simp; omega
   have hk : k + 1 ≤ 100000 := by have := (List.getElem?_eq_some_iff.1 hD).1; have := HB.out.1.1; have := HB.out.1.2.1; omega
   obtain ⟨av, cv, rfl⟩ := o2.slice
   rw [hl] at o1 o2
   obtain ⟨a', c', w', hrun, h2, h3, h4⟩ := app_row o2 hx rfl (by rw [hl]; exact hk) (fun j hj => by have := o1.lt; omega)
   rw [hl] at hrun h2
   have vs : ∃ vs, W.ownsRow 0 43 1 (.slice av k cv) (bs.take k).length vs := by obtain ⟨vs, h, _⟩ := o2; exact ⟨vs, h⟩
   obtain ⟨vs, hvs⟩ := vs
   have g1 : Blk w' (q + 1 + 1) [.slice av k cv, .int .i64 d] 120 := (o1.alloc _).grown (by decide) (hvs.alloc _) h3
   have cc : W.cell? ⟨q + 1 + 1, 0, none⟩ = some (.slice av k cv) := o1.cell 0
   have cw : w'.cell? ⟨q + 1 + 1, 0, none⟩ = some (.slice av k cv) := g1.cell 0
   have fw := g1.frozen 0
   have HS : Hid (CpSt w q (q + 1 + 1) (q + 1) (q + 3) (q + 3 + 1) (q + 3 + 1 + 1) a n c S d bs (k + 1) (w'.setCell ⟨q + 1 + 1, 0, none⟩ (.slice a' (k + 1) c')) ∧ Book R W2.heap.size (w'.setCell ⟨q + 1 + 1, 0, none⟩ (.slice a' (k + 1) c'))) := hst.app hbk hD o2 o1 h3 h2
   clear o1 o2 hx h2 h3 h4 hvs g1 hst
   have HR : Hid ((Builtin.append_ #[42, 42] 42 #[.slice av k cv, .slice (some ⟨W.heap.size, 0, none⟩) 1 1]).run Tryz.prog (W.alloc (.cells #[.slice (some ⟨gx, 0, none⟩) m m] 43)) = .ok (.slice a' (k + 1) c') w') := hrun
   clear hrun
   gi_wp2_with (gi_at_builtin; refine wpListIn_append_run rfl (.tmp 17) (.tmp 19) 42 42 rfl _ _ rfl rfl _ _ HR.out ?_)
   exact ⟨by rw [← hsz2]; exact HS.out.2, HS.out.1⟩
  case iter =>
   intro R W hY hbk h0
   refine (cut1_of (n := 5 - 1) (J := CpSt w q (q + 1 + 1) (q + 1) (q + 3) (q + 3 + 1) (q + 3 + 1 + 1) a n c S d bs) (JF := CpSt w q (q + 1 + 1) (q + 1) (q + 3) (q + 3 + 1) (q + 3 + 1 + 1) a n c S d bs) (gf := 217) (lb := #[.pointer (some ⟨q + 3, 0, none⟩)]) (fit := wFit S bs) (a := a) (nb := n) (c := c) (bs := bs)
    ⟨HB.out.1.1, HB.out.1.2.1, fun k W h => ⟨h.b1.cell 0, h.b2.cell 0⟩, ?rd, ?fits, ?le, ?torn⟩ (enters_of Tryz.func217 (by kernel_rfl) rfl) hY W hbk h0).mono ?_
   case rd =>
    intro k W D h hD
    have hb := HB.out.1.below (by rw [← HB.out.2.2.2]; exact h.below)
    obtain ⟨b, off, ha, hc⟩ := hb.2.2.resolve_left (by have := (List.getElem?_eq_some_iff.1 hD).1; have := HB.out.1.1; omega)
    obtain ⟨v, h1, A, L, C, rfl, h2, h3, h4, h5⟩ := hc k D hD
    exact ⟨b, off, A, L, C, ha, h1, h2, h4, h5⟩
   case fits =>
    intro k W D A L C h hD hin hb
    refine (whole1_of S (q + 3) A L C W (h.b0.cell 0)).mono ?_
    rintro e w' ⟨rfl, rfl⟩
    refine ⟨?_, h, hb, hin⟩
    rw [wFit_at hD, hin.1]
    by_cases e : L = S
    ·rw [if_pos (by exact_mod_cast e), if_pos e]
    ·rw [if_neg (by exact_mod_cast e), if_neg e]; rfl
   case le =>
    intro k D hD
    rw [wFit_at hD]
    split <;> omega
   case torn =>
    intro k W D x W' h hD hp hb hx hg
    have e : wFit S bs k = D.length := by
     rw [wFit_at hD] at hp ⊢
     split at hp
     ·rename_i h; rw [if_pos h, h]
     ·omega
    rw [e, tornL_all] at hx
    obtain ⟨gx, rfl⟩ := hg
    obtain ⟨v, o1, _⟩ := h.o
    exact ⟨h.under hb, D, hD, hx.mono (fun c hc _ => by have := o1.lt; omega), gx, _, rfl⟩
   rintro e W' ⟨hv, hb, k, hk, hp, he⟩
   refine ⟨hv, hb, k, ?_, ?_⟩
   ·rcases he with ⟨_, h⟩ | ⟨_, _, h⟩ <;> exact h
   ·refine cutW_take bs k (by rw [HB.out.1.1]; exact hk) hp ?_ HB.out.2.1
    rw [HB.out.1.1]
    rcases he with ⟨h, _⟩ | ⟨h1, h2, _⟩
    ·exact .inl h
    ·exact .inr ⟨h1, h2⟩
  case done =>
   rintro W ⟨k, hst, he⟩ hK
   obtain ⟨v, o1, o2⟩ := hst.o
   rw [he] at o2
   have HO : Hid (CpSt w q (q + 1 + 1) (q + 1) (q + 3) (q + 3 + 1) (q + 3 + 1 + 1) a n c S d bs k W ∧ Blk W (q + 1 + 1) [v, .int .i64 d] 120 ∧ RowAt (fun j => q ≤ j) W v (cutW S bs) ∧ W.heap[W2.heap.size]? = some (.deferred (some []))) := ⟨hst, o1, o2, hK⟩
   obtain ⟨av, cv, hv⟩ := o2.slice
   subst hv
   have c0 : W.cell? ⟨q + 1 + 1, 0, none⟩ = some (.slice av (cutW S bs).length cv) := o1.cell 0
   have c1 : W.cell? ⟨q + 1 + 1, 1, none⟩ = some (.int .i64 d) := o1.cell 1
   have e0 : W.cell? ⟨q + 1, 0, none⟩ = some (.slice none 0 0) := hst.r.cell 0
   have e1 : W.cell? ⟨q + 1, 1, none⟩ = some (.int .i64 0) := hst.r.cell 1
   have f0 := hst.r.frozen 0
   have f1 := hst.r.frozen 1
   clear hst o1 o2 hK
   go_wp2
   obtain ⟨hst, o1, o2, hK⟩ := HO.out
   have hne := hst.ne
   have r2 := ((hst.r.set 0 (.slice av (cutW S bs).length cv)).set 1 (.int .i64 d))
   have hK' : ((W.setCell ⟨q + 1, 0, none⟩ (.slice av (cutW S bs).length cv)).setCell ⟨q + 1, 1, none⟩ (.int .i64 d)).heap[W2.heap.size]? = some (.deferred (some [])) := by
    rw [Below.heap_setCell _ _ _ _ (by show W2.heap.size ≠ q + 1; omega), Below.heap_setCell _ _ _ _ (by show W2.heap.size ≠ q + 1; omega)]; exact hK
   have hcm := calm_shut hK' (.deferred none)
   have hrow := hcm.row (out_row (hst.r.set 0 (.slice av (cutW S bs).length cv)) (by decide) (by decide) 1 (.int .i64 d) (out_row hst.r (by decide) (by decide) 0 (.slice av (cutW S bs).length cv) o2))
   have hbel : Below q w ((W.setCell ⟨q + 1, 0, none⟩ (.slice av (cutW S bs).length cv)).setCell ⟨q + 1, 1, none⟩ (.int .i64 d)) := (hst.below.setCell (p := ⟨q + 1, 0, none⟩) (by show q ≤ q + 1; omega) _).setCell (p := ⟨q + 1, 1, none⟩) (by show q ≤ q + 1; omega) _
   refine ⟨by simp, .inl ⟨_, _, rfl, run_takeDeferred hK', ?_⟩⟩
   refine ⟨_, results_cell_one (p := 4) (ty := 120) rfl _ _ (q + 1) _ _ _ rfl (hcm.blk r2) Tryz.underlying120 rfl Tryz.info_zone, _, rfl, ?_, ?_⟩
   ·rw [← HB.out.2.2.2]; exact hrow
   ·rw [← HB.out.2.2.2]
    exact hbel.trans (hcm.2.1.below (by have := hcm.2.2; have := r2.lt; omega) (fun j e => by omega))
end Go.Proofs.YtncnkpnfmbgifaaGreat
