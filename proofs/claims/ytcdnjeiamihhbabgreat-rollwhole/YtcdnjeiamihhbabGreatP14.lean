/- P14 -/
import Derived.OrdersIn
import Derived.Orders
import Derived.Test.YtcdnjeiamihhbabGreatP11
set_option linter.unusedVariables false
set_option maxRecDepth 4000
namespace Go.Proofs.YtcdnjeiamihhbabGreat
open Go.RowKit Go.Shelf
attribute [local go_sem] Oper.semAt_some
theorem kparts_of (a : Option Addr) (n c : Nat) (r : Int) (w : World) : Calls Tryz.prog 158 #[.slice a n c, .int .i64 r] w fun e w' => e = .returned (.func (.func 216) #[] #[.pointer (some ⟨w.heap.size, 0, none⟩), .pointer (some ⟨w.heap.size + 1, 0, none⟩)]) ∧ w' = (w.alloc (.cells #[.slice a n c] 76)).alloc (.cells #[.int .i64 r] 3) := by
 have hmf : ∀ (fn : Fn) (first cap : Array Value) (w : World), (Instr.makeFunc fn first cap).run Tryz.prog w = .ok (.func fn first cap) w := fun _ _ _ _ => rfl
 go_enter Tryz.func158, Tryz.ntmps158
 go_wp2
 go_ret
 exact ⟨rfl, rfl⟩
/-- Where what is left begins behind k cuts. -/
def kadr (A : Option Addr) (C r : Nat) : Nat → Option Addr
 | 0 => A
 | k + 1 => kleft (kadr A C r k) (C - k * r) r
theorem KIn.cuts {w : World} {A : Option Addr} {n C r : Nat} {ps : List Pl} (h : KIn w A n ps) (hc : n ≤ C) : ∀ k, k * r ≤ n → KIn w (kadr A C r k) (n - k * r) (ps.drop (k * r))
 | 0, _ => by simpa [kadr] using h
 | k + 1, hk => by
  have e : (k + 1) * r = k * r + r := Nat.succ_mul k r
  rw [e] at hk
  have ih := KIn.cuts (r := r) h hc k (by omega)
  have := ih.back (c := C - k * r) r (by omega) (by omega)
  rw [List.drop_drop, Nat.sub_sub, ← e] at this
  exact this
theorem partK_drop {r k : Nat} {ps : List Pl} : partK r k ps = (ps.drop (k * r)).take r := rfl
theorem manyN_end {r n k : Nat} (hr : 0 < r) (h1 : n - k * r ≤ r) (h2 : k = 0 ∨ 0 < n - k * r) : manyN r n = k + 1 := by
 unfold manyN
 have e : (k + 1) * r = k * r + r := Nat.succ_mul k r
 rcases h2 with rfl | h2
 ·have : (n + r - 1) / r ≤ 1 := by
   rw [Nat.div_le_iff_le_mul_add_pred hr]; omega
  omega
 ·have h3 : (n + r - 1) / r = k + 1 := by
   apply Nat.div_eq_of_lt_le
   ·omega
   ·have e2 : (k + 1 + 1) * r = (k + 1) * r + r := Nat.succ_mul (k + 1) r
    omega
  omega
set_option maxRecDepth 100000 in
set_option maxHeartbeats 2000000 in
theorem kparts1_of {A : Option Addr} {n C r B1 B2 l : Nat} {R : Loop} {f : Nat} {J : Nat → World → Prop} {J' : Nat → Value → World → Prop} (hr : 0 < r) (hr' : r ≤ 1000000) (hn : n ≤ 10000000) (hC : n ≤ C)
  (hcap : ∀ k W, J k W → W.cell? ⟨B1, 0, none⟩ = some (.slice A n C) ∧ W.cell? ⟨B2, 0, none⟩ = some (.int .i64 r))
  (hmore : ∀ k W, J k W → k * r ≤ n → r < n - k * r → J' k (.slice (kadr A C r k) r (C - k * r)) W)
  (hlast : ∀ k W, J k W → k * r ≤ n → n - k * r ≤ r → (k = 0 ∨ 0 < n - k * r) → J' k (.slice (kadr A C r k) (n - k * r) (C - k * r)) W)
  (hY : ∀ k x W1, Book R l W1 → J' k x W1 → YieldAt Fence.wide (f - 1) Tryz.prog (l + 1) #[x] W1 fun e W' => e = .returned (.bool true) ∧ Book R l W' ∧ J (k + 1) W')
  (W : World) (hB : Book R l W) (h0 : J 0 W) :
  CallsIn Fence.wide f Tryz.prog 216 #[.func (.yield (l + 1)) #[] #[], .pointer (some ⟨B1, 0, none⟩), .pointer (some ⟨B2, 0, none⟩)] W fun e W' => (∃ v, e = .returned v) ∧ Book R l W' ∧ J (manyN r n) W' := by
 obtain ⟨c1, c2⟩ := hcap 0 W h0
 refine callsIn_of_wp Tryz.func216 rfl trivial ?_ rfl
 simp only [Tryz.ntmps216, List.size_toArray, List.length_cons, List.length_nil, Nat.reduceAdd, Nat.reduceSub, Array.replicate_succ, Array.replicate_zero, List.push_toArray, List.append_toArray, List.nil_append, List.cons_append]
 have hfw : ∀ f, Fence.wide.fn f = True := fun _ => rfl
 have hdw : Fence.wide.depth.isSome = false := rfl
 have HH : Hid ((∀ k W, J k W → W.cell? ⟨B1, 0, none⟩ = some (.slice A n C) ∧ W.cell? ⟨B2, 0, none⟩ = some (.int .i64 r)) ∧ (∀ k W, J k W → k * r ≤ n → r < n - k * r → J' k (.slice (kadr A C r k) r (C - k * r)) W) ∧ (∀ k W, J k W → k * r ≤ n → n - k * r ≤ r → (k = 0 ∨ 0 < n - k * r) → J' k (.slice (kadr A C r k) (n - k * r) (C - k * r)) W) ∧ Book R l W ∧ J 0 W ∧ 0 < r ∧ n ≤ C ∧ n ≤ 10000000) := ⟨hcap, hmore, hlast, hB, h0, hr, hC, hn⟩
 have HY : Hid (∀ k x W1, Book R l W1 → J' k x W1 → YieldAt Fence.wide (f - 1) Tryz.prog (l + 1) #[x] W1 fun e W' => e = .returned (.bool true) ∧ Book R l W' ∧ J (k + 1) W') := hY
 clear hcap hmore hlast hB h0 hY hr hC hr' hn
 gi_wp2
 gi_loopw [4] (fun v wr => ∃ k N : Nat, v = .slice (kadr A C r k) N (C - k * r) ∧ N = n - k * r ∧ k * r ≤ n ∧ (k = 0 ∨ 0 < n - k * r) ∧ Book R l wr ∧ J k wr) (fun v wr => (match v with | .slice _ N _ => N | _ => 0))
 case atStart =>
  exact ⟨0, n, by simp [kadr], by simp, by simp, .inl rfl, HH.out.2.2.2.1, HH.out.2.2.2.2.1⟩
 case round =>
  obtain ⟨k, N, rfl, hN, hkn, hpos, hbk, hj⟩ := hrel
  obtain ⟨c3, c4⟩ := HH.out.1 k _ hj
  have hrn := HH.out.2.2.2.2.2.1
  have hNC : N ≤ C - k * r := by have := HH.out.2.2.2.2.2.2.1; omega
  have hNs : N ≤ 10000000 := by have := HH.out.2.2.2.2.2.2.2; omega
  rcases Nat.lt_or_ge r N with hlt | hge
  ·have hJ' := HH.out.2.1 k wr hj hkn (by omega)
   obtain ⟨fn, tmps, assign, body, hy, hR⟩ := HY.out k _ wr hbk hJ'
   have hlt' : (r : Int) < N := by omega
   have hs1 := fun w => kslice_front (kadr A C r k) N (C - k * r) r (by omega) w
   have HK : Hid (N = n - k * r ∧ k * r ≤ n ∧ r < N) := ⟨hN, hkn, hlt⟩
   have hrN : r ≤ N := by omega
   clear hN hkn hpos hj hbk hJ' hlt
   gi_wp2
   refine hR.mono ?_
   rintro e W4 ⟨rfl, hbk4, hj4⟩
   obtain ⟨c5, c6⟩ := HH.out.1 (k + 1) _ hj4
   have hs2 := fun w => kslice_back (kadr A C r k) N (C - k * r) r hrN w
   have HJ : Hid (Book R l W4 ∧ J (k + 1) W4) := ⟨hbk4, hj4⟩
   clear hR hy hbk4 hj4 c3 c4
   gi_wp2
   go_roundw
   case rel =>
    have e : (k + 1) * r = k * r + r := Nat.succ_mul k r
    have hk := HK.out
    exact ⟨k + 1, N - r, by rw [e, ← Nat.sub_sub]; rfl, by omega, by omega, .inr (by omega), HJ.out.1, HJ.out.2⟩
   case measure => simp; omega
  ·have hJ' := HH.out.2.2.1 k wr hj hkn (by omega) hpos
   rw [← hN] at hJ'
   obtain ⟨fn, tmps, assign, body, hy, hR⟩ := HY.out k _ wr hbk hJ'
   have hge' : (N : Int) ≤ r := by omega
   have HK : Hid (manyN r n = k + 1) := manyN_end hrn (by omega) hpos
   clear hN hkn hpos hj hbk hJ' hge
   gi_wp2
   refine hR.mono ?_
   rintro e W4 ⟨rfl, hbk4, hj4⟩
   have HJ : Hid (Book R l W4 ∧ J (k + 1) W4) := ⟨hbk4, hj4⟩
   clear hR hy hbk4 hj4
   gi_wp2
   go_end0
   exact ⟨⟨_, rfl⟩, HJ.out.1, by rw [HK.out]; exact HJ.out.2⟩
def nodefer (o : Oper) : Bool := match o.op with | .defer _ => false | _ => true
theorem nodefer_of {o : Oper} (h : nodefer o = true) : ∀ c, o.op ≠ .defer c := by
 intro c e
 unfold nodefer at h
 rw [e] at h
 cases h
theorem rows_in {P : Program} {l n : Nat} {row : String} {args : Array Value} {w : World} {R : Value → World → Prop} (h : Rows P row args w R) : RowsIn (Fence.wide.inRound l) n P row args w R :=
 fun c cs _ => let ⟨v, w', r, s⟩ := h c cs; ⟨v, w', r, stepsIn_wide.2 s⟩
theorem oper_round {P : Program} {l n : Nat} {o : Oper} {a : Act} {w : World} {K : Act → World → Prop} {Q : Exit → Act → World → Prop} (hd : nodefer o = true) (h : o.wp P a w K Q) : o.wpIn (Fence.wide.inRound l) n P a w K Q := by
 refine ⟨fun f _ => trivial, ?_⟩
 rw [show (Fence.wide.inRound l).round = some l from rfl, Oper.semAt_some l _ o (nodefer_of hd)]
 unfold Oper.wp at h
 generalize (execOp a.eval o).run P w = r at *
 cases r with
 | ok x w' =>
  cases x <;> simp only [Oper.upon, Oper.uponIn] at h ⊢ <;>
   first
    | exact h
    | exact ⟨(fun e => by cases e), callsIn_wide.2 h⟩
    | exact ⟨(fun e => by cases e), rows_in h⟩
 | halt x w' => cases x <;> simp only [Oper.upon, Oper.uponIn] at h ⊢ <;> exact h
theorem op_round {P : Program} {l n : Nat} {ops : Array Oper} {Q : Exit → Act → World → Prop} (hQ : ¬ LetsOut Q) (hd : ∀ (i : Nat) (o : Oper), ops[i]? = some o → nodefer o = true) {i : Nat} {K K' : Act → World → Prop} {a : Act} {w : World} (hK : ∀ a w, K a w → K' a w) (h : wpOp P ops Q i K a w) : wpOpIn (Fence.wide.inRound l) n P ops Q i K' a w := by
 unfold wpOp at h
 unfold wpOpIn
 cases ho : ops[i]? with
 | none => rw [ho] at h; exact hK _ _ h
 | some o =>
  rw [ho] at h
  dsimp only at h ⊢
  split
  ·rename_i hw
   rw [if_pos hw] at h
   rcases h with h | ⟨_, h⟩
   ·exact Oper.wpIn_mono hK (oper_round (hd i o ho) h)
   ·exact absurd h hQ
  ·rename_i hw
   rw [if_neg hw] at h
   exact ⟨fun f _ => trivial, hK _ _ h⟩
theorem any_round {P : Program} {l n : Nat} {md : Region.Mode} {ops : Array Oper} {Q : Exit → Act → World → Prop} (hQ : ¬ LetsOut Q) (hd : ∀ (i : Nat) (o : Oper), ops[i]? = some o → nodefer o = true) :
  ∀ (fuel : Nat) (listed : Array Bool) (a : Act) (w : World), wpAny P md ops Q fuel listed a w → wpAnyIn (Fence.wide.inRound l) n P md ops Q fuel listed a w
 | 0, _, _, _, h => h
 | fuel + 1, _, _, _, h => ⟨h.1, fun i hi => op_round hQ hd (fun a' w' h' => any_round hQ hd fuel _ a' w' h') (h.2 i hi)⟩
theorem region_round {P : Program} {l n id : Nat} {ops : List Oper} {S : World → Prop} {Q : Exit → Act → World → Prop} {a : Act} {w : World} (hm : P.follows .mixedOrders = true) (hQ : ¬ LetsOut Q) (hd : ops.all nodefer = true) (hS : S w.drew)
  (h : S w.drew → wpAnyH P .any ops.toArray Q S ops.toArray.size (Array.replicate ops.toArray.size false) a w.drew) : (Code.region id ops.toArray true).wpIn (Fence.wide.inRound l) n P Q a w :=
 wpIn_region_any hm (any_round hQ (fun i o ho => List.all_eq_true.1 hd o (by
  have := List.mem_of_getElem? (by simpa using ho : ops[i]? = some o)
  exact this)) _ _ _ _ (wpAny_of_held _ _ _ _ (h hS)))
end Go.Proofs.YtcdnjeiamihhbabGreat
