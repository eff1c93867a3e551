/- What one call of wire's Take does. -/
import Derived.Test.YteokhkoaieibmaaWTakeP
import Derived.Deep.RegionLaw
import Derived.Deep.RegionHeld
namespace Go.Proofs.Yteokhkoaieibmaa
open Go.RowKit
set_option linter.unusedVariables false
set_option maxRecDepth 4000

/-- Appending numbers of a kind to a row of the call's own, as a step of a region that draws its order. -/
theorem step_append_nin {k : IntKind} {e t : TypeId} {size : Nat} (ht : Try.prog.underlying t = some (.slice e)) (hinfo : (Try.prog.info? e).map (fun i => (i.zero, i.size, i.bytes)) = some (some (.int k 0), 1, size)) (hsz : size ≤ 8)
    {ops : Array Oper} {o : Oper} {a : Act} {w : World} {K : Act → World → Prop} {Q : Exit → Act → World → Prop} {E : Prop} (hg : o.guard = none) (s x : Operand)
    (hop : o.op = .call { callee := .builtin .append, args := #[s, x], argTypes := #[t, t] }) (base : Nat)
    (a0 : Option Addr) (n0 c0 : Nat) (xs : List Int) (hs : a.eval s = .slice a0 n0 c0) (hown : w.ownsRow base e 1 (.slice a0 n0 c0) n0 (kInts k xs))
    (a1 : Option Addr) (n1 c1 : Nat) (zs : List Int) (hx : a.eval x = .slice a1 n1 c1) (hin : NIn k w a1 n1 zs) (hnil : a1 = none → n1 = 0 ∧ c1 = 0)
    (hle : n0 + n1 ≤ 1000000) (hbase : base ≤ w.heap.size)
    (hK : ∀ a' c' w', w'.ownsRow base e 1 (.slice a' (n0 + n1) c') (n0 + n1) (kInts k (xs ++ zs)) → Below base w w' → K (a.put o.dst (.slice a' (n0 + n1) c')) w') :
    if Region.wanted o (yielded ops a.tmps) = true then Oper.wp Try.prog o a w K Q else E := by
  have hw : Region.wanted o (yielded ops a.tmps) = true := by simp [Region.wanted, hg]
  rw [if_pos hw]
  obtain ⟨i0, hi, hz0, hz1, hz2⟩ := info_parts hinfo
  obtain ⟨hl, hm, hfit, hcell⟩ := hin
  cases a1 with
  | none =>
    obtain ⟨rfl, rfl⟩ := hnil rfl
    have : zs = [] := List.length_eq_zero_iff.1 hl
    subst this
    have hrun := run_append_owned_none (P := Try.prog) (w := w) base t o.type e i0 1 ht hi _ n0 (kInts k xs) hown
    unfold Oper.wp
    simp [execOp, hop, resolve, invoke, builtin, hs, hx, hrun, Result.andThen]
    have := hK a0 c0 w (by simpa using hown) (Below.refl _ _)
    exact this
  | some ad =>
    have hle' := Nat.mul_le_mul hle hsz
    obtain ⟨v', w', hrun, hown', hgrow, _⟩ := run_append_own (P := Try.prog) w base t o.type e i0 (.int k 0) 1 size ht hi hz0 hz1 hz2 rfl (by decide) _ n0 (kInts k xs) hown ad n1 c1 (kInts k zs) (by simp [kInts, hl]) (by
      intro j u hj
      have hjl : j < n1 := by
        have := (List.getElem?_eq_some_iff.1 hj).1
        rwa [kInts_length, hl] at this
      rcases hcell with hc | ⟨b, off, ha, hc⟩
      · omega
      · cases ha
        rw [Addr.add_mid, hc j hjl, ← hj]
        simp [kInts, List.getD, hl, hjl]) (kInts_one _ _) (by unfold maxLen; omega) (by omega) hbase
    have hb : Below base w w' := (Below.refl base w).grown hgrow hbase (fun k hk => (hown.lt k hk).1)
    have hcat : kInts k xs ++ kInts k zs = kInts k (xs ++ zs) := by simp [kInts]
    rw [hcat] at hown'
    obtain ⟨a', c', rfl⟩ : ∃ a' c', v' = .slice a' (n0 + n1) c' := by
      rcases hown'.2 with ⟨hv, hn⟩ | ⟨g, cap, cur, hv, _⟩
      · exact ⟨none, 0, by rw [hv, hn]⟩
      · exact ⟨_, _, hv⟩
    unfold Oper.wp
    simp [execOp, hop, resolve, invoke, builtin, hs, hx, hrun, Result.andThen]
    exact hK a' c' w' hown' hb

/-- Take's own variables, behind j numbers: the numbers so far, what is left. -/
structure TakeSt (q : Nat) (w wr : World) (A : Option Addr) (j C : Nat) (vs : List Int) (L : Option Addr) (n c : Nat) (ys : List Int) : Prop where
  vals : Blk wr q [.slice A j C] 86
  rest : Blk wr (q + 1) [.slice none 0 0] 39
  flag : Blk wr (q + 2) [.bool false] 4
  left : Blk wr (q + 3) [.slice L n c] 144
  own : wr.ownsRow (q + 4) 24 1 (.slice A j C) j (kInts .u64 vs)
  bin : BIn w L n ys
  nil : L = none → n = 0 ∧ c = 0
  cap : n ≤ c
  bel : Below q w wr
  size : q + 4 ≤ wr.heap.size
  heap : q = w.heap.size
theorem TakeSt.binr {q : Nat} {w wr : World} {A : Option Addr} {j C : Nat} {vs : List Int} {L : Option Addr} {n c : Nat} {ys : List Int} (h : TakeSt q w wr A j C vs L n c ys) : BIn wr L n ys := h.bin.below (by rw [← h.heap]; exact h.bel)
theorem TakeSt.drew {q : Nat} {w wr : World} {A : Option Addr} {j C : Nat} {vs : List Int} {L : Option Addr} {n c : Nat} {ys : List Int} (h : TakeSt q w wr A j C vs L n c ys) : TakeSt q w wr.drew A j C vs L n c ys :=
  ⟨h.vals.drew, h.rest.drew, h.flag.drew, h.left.drew, h.own.drew, h.bin, h.nil, h.cap, h.bel.drew, h.size, h.heap⟩
/-- One more number was taken off: what is left is less. -/
theorem TakeSt.took {q : Nat} {w wr : World} {A : Option Addr} {j C : Nat} {vs : List Int} {L : Option Addr} {n c : Nat} {ys : List Int} (h : TakeSt q w wr A j C vs L n c ys) (k : Nat) (h1 : 1 ≤ k) (hk : k ≤ n) :
    ∃ L', sliced L k n c 1 = .slice L' (n - k) (c - k) ∧ TakeSt q w (wr.setCell ⟨q + 3, 0, none⟩ (.slice L' (n - k) (c - k))) A j C vs L' (n - k) (c - k) (ys.drop k) := by
  obtain ⟨L', e, hb, hn⟩ := sliced_bin h.bin hk h.cap
  have hne : L ≠ none := fun e => by have := h.nil e; omega
  refine ⟨L', e, h.vals.set_other (by show q ≠ q + 3; omega) _, h.rest.set_other (by show q + 1 ≠ q + 3; omega) _, h.flag.set_other (by show q + 2 ≠ q + 3; omega) _, ?_, ownsRow_setCell_below h.own (by show q + 3 < q + 4; omega) _, hb, fun e => absurd e (hn hne), by have := h.cap; omega, h.bel.setCell (by show q ≤ q + 3; omega) _, ?_, h.heap⟩
  · exact h.left.set 0 _
  · have := h.size; simpa [World.setCell] using this
/-- One more number stands behind those so far. -/
theorem TakeSt.more {q : Nat} {w wr w' : World} {A A' : Option Addr} {j j' C C' : Nat} {vs vs' : List Int} {L : Option Addr} {n c : Nat} {ys : List Int} (h : TakeSt q w wr A j C vs L n c ys)
    (ho : w'.ownsRow (q + 4) 24 1 (.slice A' j' C') j' (kInts .u64 vs')) (hb : Below (q + 4) wr w') : TakeSt q w (w'.setCell ⟨q, 0, none⟩ (.slice A' j' C')) A' j' C' vs' L n c ys := by
  refine ⟨(h.vals.below hb (by omega)).set 0 _, (h.rest.below hb (by omega)).set_other (by show q + 1 ≠ q; omega) _, (h.flag.below hb (by omega)).set_other (by show q + 2 ≠ q; omega) _, (h.left.below hb (by omega)).set_other (by show q + 3 ≠ q; omega) _, ownsRow_setCell_below ho (by show q < q + 4; omega) _, h.bin, h.nil, h.cap, (h.bel.trans (hb.mono (by omega))).setCell (Nat.le_refl _) _, ?_, h.heap⟩
  have := h.size
  have := hb.size
  simp [World.setCell]
  omega
end Go.Proofs.Yteokhkoaieibmaa
