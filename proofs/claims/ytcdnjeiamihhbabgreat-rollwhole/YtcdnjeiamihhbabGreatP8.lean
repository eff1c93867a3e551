/- P8 -/
import Derived.StillTailTactics
import Derived.WalkLawsBesides
import Derived.Defers
import Derived.Recover
import Derived.Deep.RegionLaw
import Derived.Test.YtcdnjeiamihhbabGreatP7
set_option linter.unusedVariables false
set_option maxRecDepth 4000
namespace Go.Proofs.YtcdnjeiamihhbabGreat
open Go.RowKit
theorem region_tail {P : Program} {id : Nat} {Q : Exit → Act → World → Prop} {a : Act} {w : World} {l : List Oper} (n : Nat) (hm : P.follows .mixedOrders = true) (hB : Region.lexTailB .any l.toArray n = true)
  (h : wpStill P l.toArray w.drew (fun a' => wpList P l.toArray Q (l.drop n) a' w.drew) (l.take n) a) : (Code.region id l.toArray true).wp P Q a w := wp_region_still_tail n hm hB h
theorem p256 : ∀ j : Nat, j < 8 → (256 : Int) ^ j ≤ 72057594037927936 := by decide
theorem shl8 {n x : Int} (hn : 0 ≤ n) (h1 : n < 72057594037927936) (hx : Fits8 x) : bits .or .u64 (n * 256) x = n * 256 + x := by
 have hc : bits .or .u64 (n * 256) x = bits .or .u64 x (n * 256) := by
  show IntKind.u64.wrap ((BitVec.ofInt 64 (n * 256) ||| BitVec.ofInt 64 x).toNat : Int) = IntKind.u64.wrap ((BitVec.ofInt 64 x ||| BitVec.ofInt 64 (n * 256)).toNat : Int)
  rw [BitVec.or_comm]
 rw [hc, u64_or8 _ _ hx.1 hx.2 (by omega) (by omega) (by omega), Int.add_comm]
def tooFew : ByteArray := ⟨#[119, 105, 114, 101, 58, 32, 116, 111, 111, 32, 102, 101, 119, 32, 98, 121, 116, 101, 115]⟩
/-- Too few bytes: it panics. -/
theorem number_few (g : Nat) (a : Option Addr) (n c k : Nat) (w : World) (hc : w.cell? ⟨g, 0, none⟩ = some (.slice a n c)) (hk : n < k) :
  Calls Tryz.prog 236 #[.pointer (some ⟨g, 0, none⟩), .int .i64 k] w fun e w' => e = .panicked [{ v := .iface 9 (.string tooFew), recovered := false }] ∧ w' = w := by
 have hlt : (n : Int) < k := by omega
 go_enter Tryz.func236, Tryz.ntmps236
 go_wp2
 exact ⟨rfl, rfl, rfl⟩
set_option maxHeartbeats 1000000 in
theorem number_some (g b off n c k : Nat) (xs : List Int) (w : World) (hc : w.cell? ⟨g, 0, none⟩ = some (.slice (some ⟨b, off, none⟩) n c)) (hz : w.frozen? ⟨g, 0, none⟩ = false)
  (h : ∀ i, i < n → w.cell? ⟨b, off + i, none⟩ = some (.int .u8 (xs.getD i 0))) (hf : ∀ z ∈ xs, Fits8 z) (hl : xs.length = n) (hk : k ≤ n) (hk8 : k ≤ 8) (hnc : n ≤ c) :
  Calls Tryz.prog 236 #[.pointer (some ⟨g, 0, none⟩), .int .i64 k] w fun e w' => e = .returned (.int .u64 (numI (xs.take k))) ∧ w' = w.setCell ⟨g, 0, none⟩ (sliced (some ⟨b, off, none⟩) k n c 1) := by
 have hge : (k : Int) ≤ n := by omega
 have hge' : (k : Int) ≤ c := by omega
 have H : Hid ((∀ i, i < n → w.cell? ⟨b, off + i, none⟩ = some (.int .u8 (xs.getD i 0))) ∧ (∀ z ∈ xs, Fits8 z) ∧ xs.length = n) := ⟨h, hf, hl⟩
 clear h hf hl
 go_enter Tryz.func236, Tryz.ntmps236
 go_wp2
 go_loopw [5, 23] (fun v i wr => ∃ j : Nat, j ≤ k ∧ i = .int .i64 j ∧ v = .int .u64 (numI (xs.take j)) ∧ wr = w)
  (fun _ i _ => k - (intOf i).toNat)
 case atStart => exact ⟨0, by omega, rfl, rfl, rfl⟩
 case round =>
  obtain ⟨j, hj, rfl, rfl, rfl⟩ := hrel
  by_cases hlt : j < k
  ·have hlt' : (j : Int) < k := by omega
   have hcj := H.out.1 j (by omega)
   have hx : Fits8 (xs.getD j 0) := byte_fits H.out.2.1 j
   obtain ⟨x, ex⟩ : ∃ x, x = xs.getD j 0 := ⟨_, rfl⟩
   rw [← ex] at hcj hx
   obtain ⟨r0, r1⟩ := numI_range j (xs.take j) (by rw [List.length_take, H.out.2.2]; omega) (fun z hz => H.out.2.1 z (List.mem_of_mem_take hz))
   have r2 : numI (xs.take j) < 72057594037927936 := by
    have := p256 j (by omega)
    omega
   have hnx : numI (xs.take j) * 256 + x = numI (xs.take (j + 1)) := by
    rw [take_next xs (by rw [H.out.2.2]; omega), numI_snoc, ex]
   obtain ⟨N, eN⟩ : ∃ N, N = numI (xs.take j) := ⟨_, rfl⟩
   rw [← eN] at r0 r2 hnx ⊢
   have hor := shl8 r0 r2 hx
   have HE : Hid (N * 256 + x = numI (xs.take (j + 1))) := hnx
   clear hnx eN ex r1
   obtain ⟨hx0, hx1⟩ := hx
   go_wp2
   go_roundw
   case rel => exact ⟨j + 1, by omega, by go_num, by rw [← HE.out], trivial⟩
   case measure => simp [intOf]; omega
  ·have hge : (k : Int) ≤ j := by omega
   have e : j = k := by omega
   rw [e]
   clear e hlt hj
   by_cases hck : c = k
   ·have hck' : (c == k) = true := by simp [hck]
    go_wp2
    go_ret
    exact ⟨rfl, by simp [sliced, hck]⟩
   ·go_wp2
    go_ret
    exact ⟨rfl, by simp [sliced, hck, Addr.add_mid]⟩
/-- Numbers are taken off the front of what is left. -/
theorem number_of (g : Nat) (a : Option Addr) (n c k : Nat) (xs : List Int) (w : World) (hc : w.cell? ⟨g, 0, none⟩ = some (.slice a n c)) (hz : w.frozen? ⟨g, 0, none⟩ = false)
  (h : BIn w a n xs) (h1 : 1 ≤ k) (hk : k ≤ n) (hk8 : k ≤ 8) (hnc : n ≤ c) :
  Calls Tryz.prog 236 #[.pointer (some ⟨g, 0, none⟩), .int .i64 k] w fun e w' => e = .returned (.int .u64 (numI (xs.take k))) ∧ w' = w.setCell ⟨g, 0, none⟩ (sliced a k n c 1) := by
 obtain ⟨b, off, rfl, hcell⟩ := h.2.2.2.resolve_left (by omega)
 exact number_some g b off n c k xs w hc hz hcell h.2.2.1 h.1 hk hk8 hnc
theorem sliced_bin {W : World} {a : Option Addr} {k n c : Nat} {xs : List Int} (h : BIn W a n xs) (hk : k ≤ n) (hc : n ≤ c) : ∃ a', sliced a k n c 1 = .slice a' (n - k) (c - k) ∧ BIn W a' (n - k) (xs.drop k) ∧ (a ≠ none → a' ≠ none) := by
 have := NIn.back h.n k hk hc
 refine ⟨_, by unfold sliced; rw [Nat.mul_one], this.b, fun ha => ?_⟩
 split
 ·exact ha
 ·cases a with
  | none => exact absurd rfl ha
  | some x => simp
theorem catch_idle (p q r : Addr) (w : World) :
  CallsD Tryz.prog 235 #[.pointer (some p), .pointer (some q), .pointer (some r)] .returning w fun e u' w' => e = .returned (.tuple #[]) ∧ u' = .returning ∧ w' = w := by
 refine callsD_of_wpS Tryz.func235 rfl fun c₀ cs hu => ?_
 apply wpS_seq
 apply wpS_region
 simp [wpOpsS, go_sem, recoverD, hu, Tryz.ntmps235, Exit.thenS]
 refine wpS_cond (t := false) (by simp [Act.eval, Array.replicate]) ?_
 simp only [Bool.false_eq_true, if_false]
 refine wpS_of_wp (wp_skip ?_)
 cases c₀
 simp_all [bodyPostS, results, Tryz.results235]
theorem catch_panicking (g : Nat) (u : TypeId) (pv : Value) (older : List PanicEntry) (w : World) (v0 v1 v2 : Value)
  (hp : w.cell? ⟨g, 0, none⟩ = some v0) (hq : w.cell? ⟨g + 1, 0, none⟩ = some v1) (hr : w.cell? ⟨g + 2, 0, none⟩ = some v2) (zp : w.frozen? ⟨g, 0, none⟩ = false) (zq : w.frozen? ⟨g + 1, 0, none⟩ = false) (zr : w.frozen? ⟨g + 2, 0, none⟩ = false) :
  CallsD Tryz.prog 235 #[.pointer (some ⟨g, 0, none⟩), .pointer (some ⟨g + 1, 0, none⟩), .pointer (some ⟨g + 2, 0, none⟩)] (.panicking ({ v := .iface u pv, recovered := false } :: older)) w fun e u' w' =>
   e = .returned (.tuple #[]) ∧ u' = .panicking ({ v := .iface u pv, recovered := true } :: older) ∧ w' = ((w.setCell ⟨g, 0, none⟩ (.slice none 0 0)).setCell ⟨g + 1, 0, none⟩ (.slice none 0 0)).setCell ⟨g + 2, 0, none⟩ (.bool false) := by
 refine callsD_of_wpS Tryz.func235 rfl fun c₀ cs hu => ?_
 apply wpS_seq
 apply wpS_region
 simp [wpOpsS, go_sem, recoverD, hu, Tryz.ntmps235, Exit.thenS]
 refine wpS_cond (t := true) (by simp [Act.eval, Array.replicate]) ?_
 simp only [if_true]
 apply wpS_region
 simp [wpOpsS, go_sem, hp, hq, hr, zp, zq, zr, bodyPostS, results, Tryz.results235]
/-- Appending numbers of a kind to a row of the call's own, as a step of a region that draws its order. -/
theorem step_append_nin {k : IntKind} {e t : TypeId} {size : Nat} (ht : Tryz.prog.underlying t = some (.slice e)) (hinfo : (Tryz.prog.info? e).map (fun i => (i.zero, i.size, i.bytes)) = some (some (.int k 0), 1, size)) (hsz : size ≤ 8)
  {ops : Array Oper} {o : Oper} {a : Act} {w : World} {K : Act → World → Prop} {Q : Exit → Act → World → Prop} {E : Prop} (hg : o.guard = none) (s x : Operand)
  (hop : o.op = .call { callee := .builtin .append, args := #[s, x], argTypes := #[t, t] }) (base : Nat)
  (a0 : Option Addr) (n0 c0 : Nat) (xs : List Int) (hs : a.eval s = .slice a0 n0 c0) (hown : w.ownsRow base e 1 (.slice a0 n0 c0) n0 (kInts k xs))
  (a1 : Option Addr) (n1 c1 : Nat) (zs : List Int) (hx : a.eval x = .slice a1 n1 c1) (hin : NIn k w a1 n1 zs) (hnil : a1 = none → n1 = 0 ∧ c1 = 0)
  (hle : n0 + n1 ≤ 1000000) (hbase : base ≤ w.heap.size)
  (hK : ∀ a' c' w', w'.ownsRow base e 1 (.slice a' (n0 + n1) c') (n0 + n1) (kInts k (xs ++ zs)) → Below base w w' → K (a.put o.dst (.slice a' (n0 + n1) c')) w') :
  if Region.wanted o (yielded ops a.tmps) = true then Oper.wp Tryz.prog o a w K Q else E := by
 have hw : Region.wanted o (yielded ops a.tmps) = true := by simp [Region.wanted, hg]
 rw [if_pos hw]
 obtain ⟨i0, hi, hz0, hz1, hz2⟩ := info_parts hinfo
 obtain ⟨hl, hm, hfit, hcell⟩ := hin
 cases a1 with
 | none =>
  obtain ⟨rfl, rfl⟩ := hnil rfl
  have : zs = [] := List.length_eq_zero_iff.1 hl
  subst this
  have hrun := run_append_owned_none (P := Tryz.prog) (w := w) base t o.type e i0 1 ht hi _ n0 (kInts k xs) hown
  unfold Oper.wp
  simp [execOp, hop, resolve, invoke, builtin, hs, hx, hrun, Result.andThen]
  have := hK a0 c0 w (by simpa using hown) (Below.refl _ _)
  exact this
 | some ad =>
  have hle' := Nat.mul_le_mul hle hsz
  obtain ⟨v', w', hrun, hown', hgrow, _⟩ := run_append_own (P := Tryz.prog) w base t o.type e i0 (.int k 0) 1 size ht hi hz0 hz1 hz2 rfl (by decide) _ n0 (kInts k xs) hown ad n1 c1 (kInts k zs) (by simp [kInts, hl]) (by
   intro j u hj
   have hjl : j < n1 := by
    have := (List.getElem?_eq_some_iff.1 hj).1
    rwa [kInts_length, hl] at this
   rcases hcell with hc | ⟨b, off, ha, hc⟩
   ·omega
   ·cases ha
    rw [Addr.add_mid, hc j hjl, ← hj]
    simp [kInts, List.getD, hl, hjl]) (kInts_one _ _) (by unfold maxLen; omega) (by omega) hbase
  have hb : Below base w w' := (Below.refl base w).grown hgrow hbase (fun k hk => (hown.lt k hk).1)
  have hcat : kInts k xs ++ kInts k zs = kInts k (xs ++ zs) := by simp [kInts]
  rw [hcat] at hown'
  obtain ⟨a', c', rfl⟩ : ∃ a' c', v' = .slice a' (n0 + n1) c' := by
   rcases hown'.2 with ⟨hv, hn⟩ | ⟨g, cap, cur, hv, _⟩
   ·exact ⟨none, 0, by rw [hv, hn]⟩
   ·exact ⟨_, _, hv⟩
  unfold Oper.wp
  simp [execOp, hop, resolve, invoke, builtin, hs, hx, hrun, Result.andThen]
  exact hK a' c' w' hown' hb
/-- Take's own variables, behind j numbers: the numbers so far, what is left. -/
structure TakeSt (q : Nat) (w wr : World) (A : Option Addr) (j C : Nat) (vs : List Int) (L : Option Addr) (n c : Nat) (ys : List Int) : Prop where
 vals : Blk wr q [.slice A j C] 82
 rest : Blk wr (q + 1) [.slice none 0 0] 51
 flag : Blk wr (q + 2) [.bool false] 4
 left : Blk wr (q + 3) [.slice L n c] 305
 own : wr.ownsRow (q + 4) 36 1 (.slice A j C) j (kInts .u64 vs)
 bin : BIn w L n ys
 nil : L = none → n = 0 ∧ c = 0
 cap : n ≤ c
 bel : Below q w wr
 size : q + 4 ≤ wr.heap.size
 heap : q = w.heap.size
theorem TakeSt.binr {q : Nat} {w wr : World} {A : Option Addr} {j C : Nat} {vs : List Int} {L : Option Addr} {n c : Nat} {ys : List Int} (h : TakeSt q w wr A j C vs L n c ys) : BIn wr L n ys := h.bin.below (by rw [← h.heap]; exact h.bel)
theorem TakeSt.drew {q : Nat} {w wr : World} {A : Option Addr} {j C : Nat} {vs : List Int} {L : Option Addr} {n c : Nat} {ys : List Int} (h : TakeSt q w wr A j C vs L n c ys) : TakeSt q w wr.drew A j C vs L n c ys :=
 ⟨h.vals.drew, h.rest.drew, h.flag.drew, h.left.drew, h.own.drew, h.bin, h.nil, h.cap, h.bel.drew, h.size, h.heap⟩
/-- One more number was taken off: what is left is less. -/
theorem TakeSt.took {q : Nat} {w wr : World} {A : Option Addr} {j C : Nat} {vs : List Int} {L : Option Addr} {n c : Nat} {ys : List Int} (h : TakeSt q w wr A j C vs L n c ys) (k : Nat) (h1 : 1 ≤ k) (hk : k ≤ n) :
  ∃ L', sliced L k n c 1 = .slice L' (n - k) (c - k) ∧ TakeSt q w (wr.setCell ⟨q + 3, 0, none⟩ (.slice L' (n - k) (c - k))) A j C vs L' (n - k) (c - k) (ys.drop k) := by
 obtain ⟨L', e, hb, hn⟩ := sliced_bin h.bin hk h.cap
 have hne : L ≠ none := fun e => by have := h.nil e; omega
 refine ⟨L', e, h.vals.set_other (by show q ≠ q + 3; omega) _, h.rest.set_other (by show q + 1 ≠ q + 3; omega) _, h.flag.set_other (by show q + 2 ≠ q + 3; omega) _, ?_, ownsRow_setCell_below h.own (by show q + 3 < q + 4; omega) _, hb, fun e => absurd e (hn hne), by have := h.cap; omega, h.bel.setCell (by show q ≤ q + 3; omega) _, ?_, h.heap⟩
 ·exact h.left.set 0 _
 ·have := h.size; simpa [World.setCell] using this
/-- One more number stands behind those so far. -/
theorem TakeSt.more {q : Nat} {w wr w' : World} {A A' : Option Addr} {j j' C C' : Nat} {vs vs' : List Int} {L : Option Addr} {n c : Nat} {ys : List Int} (h : TakeSt q w wr A j C vs L n c ys)
  (ho : w'.ownsRow (q + 4) 36 1 (.slice A' j' C') j' (kInts .u64 vs')) (hb : Below (q + 4) wr w') : TakeSt q w (w'.setCell ⟨q, 0, none⟩ (.slice A' j' C')) A' j' C' vs' L n c ys := by
 refine ⟨(h.vals.below hb (by omega)).set 0 _, (h.rest.below hb (by omega)).set_other (by show q + 1 ≠ q; omega) _, (h.flag.below hb (by omega)).set_other (by show q + 2 ≠ q; omega) _, (h.left.below hb (by omega)).set_other (by show q + 3 ≠ q; omega) _, ownsRow_setCell_below ho (by show q < q + 4; omega) _, h.bin, h.nil, h.cap, (h.bel.trans (hb.mono (by omega))).setCell (Nat.le_refl _) _, ?_, h.heap⟩
 have := h.size
 have := hb.size
 simp [World.setCell]
 omega
end Go.Proofs.YtcdnjeiamihhbabGreat
