/- Texts of this seat, one behind the other: WTakeP, WTakeS, WTake, WKnown. -/
import Derived.Test.YtfcbcpjcmihooaaGreatJ5
import Derived.Defers
import Derived.Recover
import Derived.Deep.RegionLaw
import Derived.Deep.RegionHeld
import Derived.Deep.RegionHeld3
import Derived.BigQuiet
/- What Take's deferred function does. -/
namespace Go.Proofs.YtfcbcpjcmihooaaGreat
open Go.RowKit
set_option linter.unusedVariables false
set_option maxRecDepth 4000

end Go.Proofs.YtfcbcpjcmihooaaGreat

/- What one call of wire's Take does. -/
namespace Go.Proofs.YtfcbcpjcmihooaaGreat
open Go.RowKit
set_option linter.unusedVariables false
set_option maxRecDepth 4000

/-- Appending numbers of a kind to a row of the call's own, as a step of a region that draws its order. -/
theorem step_append_nin {k : IntKind} {e t : TypeId} {size : Nat} (ht : Tryz.prog.underlying t = some (.slice e)) (hinfo : (Tryz.prog.info? e).map (fun i => (i.zero, i.size, i.bytes)) = some (some (.int k 0), 1, size)) (hsz : size ≤ 8)
    {ops : Array Oper} {o : Oper} {a : Act} {w : World} {K : Act → World → Prop} {Q : Exit → Act → World → Prop} {E : Prop} (hg : o.guard = none) (s x : Operand)
    (hop : o.op = .call { callee := .builtin .append, args := #[s, x], argTypes := #[t, t] }) (base : Nat)
    (a0 : Option Addr) (n0 c0 : Nat) (xs : List Int) (hs : a.eval s = .slice a0 n0 c0) (hown : w.ownsRow base e 1 (.slice a0 n0 c0) n0 (kInts k xs))
    (a1 : Option Addr) (n1 c1 : Nat) (zs : List Int) (hx : a.eval x = .slice a1 n1 c1) (hin : NIn k w a1 n1 zs) (hnil : a1 = none → n1 = 0 ∧ c1 = 0)
    (hle : n0 + n1 ≤ 1000000) (hbase : base ≤ w.heap.size)
    (hK : ∀ a' c' w', w'.ownsRow base e 1 (.slice a' (n0 + n1) c') (n0 + n1) (kInts k (xs ++ zs)) → Below base w w' → K (a.put o.dst (.slice a' (n0 + n1) c')) w') :
    if Region.wanted o (yielded ops a.tmps) = true then Oper.wp Tryz.prog o a w K Q else E := by
  have hw : Region.wanted o (yielded ops a.tmps) = true := by simp [Region.wanted, hg]
  rw [if_pos hw]
  obtain ⟨i0, hi, hz0, hz1, hz2⟩ := info_parts hinfo
  obtain ⟨hl, hm, hfit, hcell⟩ := hin
  cases a1 with
  | none =>
    obtain ⟨rfl, rfl⟩ := hnil rfl
    have : zs = [] := List.length_eq_zero_iff.1 hl
    subst this
    have hrun := run_append_owned_none (P := Tryz.prog) (w := w) base t o.type e i0 1 ht hi _ n0 (kInts k xs) hown
    unfold Oper.wp
    simp [execOp, hop, resolve, invoke, builtin, hs, hx, hrun, Result.andThen]
    have := hK a0 c0 w (by simpa using hown) (Below.refl _ _)
    exact this
  | some ad =>
    have hle' := Nat.mul_le_mul hle hsz
    obtain ⟨v', w', hrun, hown', hgrow, _⟩ := run_append_own (P := Tryz.prog) w base t o.type e i0 (.int k 0) 1 size ht hi hz0 hz1 hz2 rfl (by decide) _ n0 (kInts k xs) hown ad n1 c1 (kInts k zs) (by simp [kInts, hl]) (by
      intro j u hj
      have hjl : j < n1 := by
        have := (List.getElem?_eq_some_iff.1 hj).1
        rwa [kInts_length, hl] at this
      rcases hcell with hc | ⟨b, off, ha, hc⟩
      · omega
      · cases ha
        rw [Addr.add_mid, hc j hjl, ← hj]
        simp [kInts, List.getD, hl, hjl]) (kInts_one _ _) (by unfold maxLen; omega) (by omega) hbase
    have hb : Below base w w' := (Below.refl base w).grown hgrow hbase (fun k hk => (hown.lt k hk).1)
    have hcat : kInts k xs ++ kInts k zs = kInts k (xs ++ zs) := by simp [kInts]
    rw [hcat] at hown'
    obtain ⟨a', c', rfl⟩ : ∃ a' c', v' = .slice a' (n0 + n1) c' := by
      rcases hown'.2 with ⟨hv, hn⟩ | ⟨g, cap, cur, hv, _⟩
      · exact ⟨none, 0, by rw [hv, hn]⟩
      · exact ⟨_, _, hv⟩
    unfold Oper.wp
    simp [execOp, hop, resolve, invoke, builtin, hs, hx, hrun, Result.andThen]
    exact hK a' c' w' hown' hb

end Go.Proofs.YtfcbcpjcmihooaaGreat

/- What one call of wire's Take does. -/
namespace Go.Proofs.YtfcbcpjcmihooaaGreat
open Go.RowKit
set_option linter.unusedVariables false
set_option maxRecDepth 4000

/-- What Take tells: numbers, what stands behind them. -/
def takeV (xs ws : List Int) : List Int := if offL ws ≤ xs.length then valL xs ws else []
def takeR (xs ws : List Int) : List Int := if offL ws ≤ xs.length then xs.drop (offL ws) else []
theorem sizes4 (w : World) (a b c d : Obj) : ((((w.alloc a).alloc b).alloc c).alloc d).heap.size = w.heap.size + 4 := by simp
theorem own_belowN {t : TypeId} {w w' : World} {base B : Nat} {v : Value} {n : Nat} {zs : List Value} (h : w.ownsRow base t 1 v n zs) (hb : Below B w w') (hs : w.heap.size ≤ B) : w'.ownsRow base t 1 v n zs := by
  refine ⟨h.1, ?_⟩
  rcases h.2 with h2 | ⟨g, cap, cur, hv, hbg, hg, hr⟩
  · exact .inl h2
  · exact .inr ⟨g, cap, cur, hv, hbg, by rw [hb.block g (Nat.lt_of_lt_of_le (Array.getElem?_eq_some_iff.1 hg).1 hs)]; exact hg, hr⟩
theorem put_other (a : Act) (v : Value) {d s : Nat} (h : d ≠ s) : (a.put (some d) v).tmps.getD s undef = a.tmps.getD s undef := by
  simp [Act.put, Array.getD_eq_getD_getElem?, h]
end Go.Proofs.YtfcbcpjcmihooaaGreat

/- Numbers that fit. -/
namespace Go.Proofs.YtfcbcpjcmihooaaGreat
open Go.RowKit
set_option linter.unusedVariables false
set_option maxRecDepth 4000

theorem all_wf {k : IntKind} {L : List Int} (h : (L.all fun z => (Lit.int k z).wf) = true) : ∀ z ∈ L, (Lit.int k z).wf = true := List.all_eq_true.1 h
end Go.Proofs.YtfcbcpjcmihooaaGreat
