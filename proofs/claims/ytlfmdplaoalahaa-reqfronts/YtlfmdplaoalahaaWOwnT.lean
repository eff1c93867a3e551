/- Rows of a call's own that stay apart: by the kind of what they hold, by where they lie. -/
import Derived.Test.YtlfmdplaoalahaaWLaw
namespace Go.Proofs.Ytlfmdplaoalahaa
open Go.RowKit
set_option linter.unusedVariables false
set_option maxRecDepth 4000

theorem own_apart {w : World} {b1 b2 : Nat} {t e : TypeId} {v u : Value} {n m : Nat} {xs ys : List Value} (h : w.ownsRow b1 t 1 v n xs) (k : w.ownsRow b2 e 1 u m ys) (hte : t ≠ e) : v.ownBlock = none ∨ v.ownBlock ≠ u.ownBlock := by
  rcases h.2 with ⟨hv, _⟩ | ⟨g, cap, cur, hv, hb, hg, _⟩
  · left; rw [hv]; rfl
  · right
    rcases k.2 with ⟨hu, _⟩ | ⟨g', cap', cur', hu, hb', hg', _⟩
    · rw [hv, hu]; simp [Value.ownBlock]
    · rw [hv, hu]
      intro e1
      simp only [Value.ownBlock, Option.some.injEq] at e1
      subst e1
      rw [hg] at hg'
      cases hg'
      exact hte rfl
/-- A row that was made later. -/
theorem own_later {w w1 : World} {b1 b2 : Nat} {t e : TypeId} {v u : Value} {n m : Nat} {xs ys : List Value} (h : w1.ownsRow b1 t 1 v n xs) (k : w.ownsRow b2 e 1 u m ys) (hs : w.heap.size ≤ b1) : v.ownBlock = none ∨ v.ownBlock ≠ u.ownBlock := by
  cases hv : v.ownBlock with
  | none => exact .inl rfl
  | some g =>
    right
    intro e1
    have h1 := (h.lt g hv).1
    have h2 := (k.lt g e1.symm).2
    omega
theorem grownBy_refl (w : World) (r : Option Nat) : w.grownBy w r := ⟨rfl, rfl, rfl, Nat.le_refl _, fun _ _ _ => rfl⟩
theorem grownBy_trans {w w1 w2 : World} {r : Option Nat} (h : w.grownBy w1 r) (k : w1.grownBy w2 r) : w.grownBy w2 r :=
  ⟨k.os.trans h.os, k.tape.trans h.tape, k.output.trans h.output, Nat.le_trans h.size k.size, fun i hi hr => (k.block i (Nat.lt_of_lt_of_le hi h.size) hr).trans (h.block i hi hr)⟩
/-- Appending numbers of a kind to a row of the call's own: rows of other kinds stay. -/
theorem wpList_append_kept {k : IntKind} {e t : TypeId} {size : Nat} (ht : Try.prog.underlying t = some (.slice e)) (hinfo : (Try.prog.info? e).map (fun i => (i.zero, i.size, i.bytes)) = some (some (.int k 0), 1, size)) (hsz : size ≤ 8)
    {ops : Array Oper} {rest : List Oper} {o : Oper} {a : Act} {Q : Exit → Act → World → Prop} {w : World} (hgd : o.guard = none) (s x : Operand)
    (ho : o.op = .call { callee := .builtin .append, args := #[s, x], argTypes := #[t, t] }) (base : Nat)
    (a0 : Option Addr) (n0 c0 : Nat) (xs : List Int) (hs : a.eval s = .slice a0 n0 c0) (hown : w.ownsRow base e 1 (.slice a0 n0 c0) n0 (kInts k xs))
    (a1 : Option Addr) (n1 c1 : Nat) (zs : List Int) (hx : a.eval x = .slice a1 n1 c1) (hin : NIn k w a1 n1 zs) (hnil : a1 = none → n1 = 0 ∧ c1 = 0)
    (hle : n0 + n1 ≤ 1000000) (hbase : base ≤ w.heap.size)
    (h : ∀ a' c' w', w'.ownsRow base e 1 (.slice a' (n0 + n1) c') (n0 + n1) (kInts k (xs ++ zs)) → Below base w w' → w.grownBy w' (Value.slice a0 n0 c0).ownBlock → wpList Try.prog ops Q rest (a.put o.dst (.slice a' (n0 + n1) c')) w') :
    wpList Try.prog ops Q (o :: rest) a w := by
  obtain ⟨i0, hi, hz0, hz1, hz2⟩ := info_parts hinfo
  obtain ⟨hl, hm, hfit, hcell⟩ := hin
  cases a1 with
  | none =>
    obtain ⟨rfl, rfl⟩ := hnil rfl
    have : zs = [] := List.length_eq_zero_iff.1 hl
    subst this
    refine wpList_append_own_none hgd s x t ho base e i0 1 ht hi _ n0 (kInts k xs) hs hown hx ?_
    have := h a0 c0 w (by simpa using hown) (Below.refl _ _) (grownBy_refl _ _)
    simpa using this
  | some ad =>
    refine wpList_append_own w hgd s x t ho base e i0 (.int k 0) 1 size ht hi hz0 hz1 hz2 rfl (by decide) _ n0 (kInts k xs) hs hown ad n1 c1 (kInts k zs) hx (by simp [kInts, hl]) ?_ (kInts_one _ _) (by unfold maxLen; omega) ?_ hbase ?_
    · intro j u hj
      have hjl : j < n1 := by
        have := (List.getElem?_eq_some_iff.1 hj).1
        rwa [kInts_length, hl] at this
      rcases hcell with hc | ⟨b, off, ha, hc⟩
      · omega
      · cases ha
        rw [Addr.add_mid, hc j hjl, ← hj]
        simp [kInts, List.getD, hl, hjl]
    · have := Nat.mul_le_mul hle hsz
      omega
    · intro v' w' hown' hgrow _
      have hb : Below base w w' := (Below.refl base w).grown hgrow hbase (fun k hk => (hown.lt k hk).1)
      have hcat : kInts k xs ++ kInts k zs = kInts k (xs ++ zs) := by simp [kInts]
      rw [hcat] at hown'
      obtain ⟨a', c', rfl⟩ : ∃ a' c', v' = .slice a' (n0 + n1) c' := by
        rcases hown'.2 with ⟨hv, hn⟩ | ⟨g, cap, cur, hv, _⟩
        · exact ⟨none, 0, by rw [hv, hn]⟩
        · exact ⟨_, _, hv⟩
      exact h a' c' w' hown' hb hgrow
/-- One number more is taken: all of them so far. -/
theorem one_more (xs ws : List Int) {j : Nat} {x : Int} (hx : ws.take (j + 1) = ws.take j ++ [x]) (hoff : offL (ws.take j) ≤ xs.length) :
    (offL [x] ≤ (xs.drop (offL (ws.take j))).length ↔ offL (ws.take (j + 1)) ≤ xs.length) ∧
    (offL (ws.take (j + 1)) ≤ xs.length → valL xs (ws.take j) ++ takeV (xs.drop (offL (ws.take j))) [x] = valL xs (ws.take (j + 1)) ∧ takeR (xs.drop (offL (ws.take j))) [x] = xs.drop (offL (ws.take (j + 1)))) := by
  have e1 : offL [x] = wd x := by simp [offL]
  have e2 : offL (ws.take (j + 1)) = offL (ws.take j) + wd x := by rw [hx, offL_snoc]
  have hiff : offL [x] ≤ (xs.drop (offL (ws.take j))).length ↔ offL (ws.take (j + 1)) ≤ xs.length := by rw [e1, e2, List.length_drop]; omega
  refine ⟨hiff, fun h => ?_⟩
  have h' := hiff.2 h
  unfold takeV takeR
  rw [if_pos h', if_pos h']
  refine ⟨?_, ?_⟩
  · rw [hx, valL_snoc]; simp [valL]
  · rw [e1, e2, List.drop_drop]
end Go.Proofs.Ytlfmdplaoalahaa
