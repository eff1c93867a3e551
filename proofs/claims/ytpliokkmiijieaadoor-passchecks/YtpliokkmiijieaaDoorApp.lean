/- Appending a list of bytes that lies in the world to a list that the call itself made. -/
import Derived.Test.YtpliokkmiijieaaDoorSame
import Derived.Laws.AppendOwnNone
namespace Go.Proofs.YtpliokkmiijieaaDoor
open Go.RowKit
set_option linter.unusedVariables false
set_option maxRecDepth 4000

theorem Tryd.zero_u8 : (Tryd.prog.info? 5).map (fun i => (i.zero, i.size, i.bytes)) = some (some (.int .u8 0), 1, 1) := by kernel_rfl

/-- What a call owns lies in the world. -/
theorem own_bin {w : World} {base : Nat} {a : Option Addr} {n c : Nat} {zs : List Int} (h : w.ownsRow base 5 1 (.slice a n c) n (u8s zs)) (hm : n ≤ maxLen) (hz : ∀ z ∈ zs, Fits8 z) :
    BIn w a n zs := by
  have hl : zs.length = n := by have := h.1; simp [u8s] at this; omega
  refine ⟨hl, hm, hz, ?_⟩
  rcases h.2 with ⟨hv, hn⟩ | ⟨g, cap, cur, hv, hb, hg, hc, hcm, hsz, htake⟩
  · exact .inl hn
  · cases hv
    refine .inr ⟨g, 0, rfl, fun i hi => ?_⟩
    have hcl := h.cells (g := g) rfl i (.int .u8 (zs.getD i 0)) (by simp [u8s, List.getD, hl, hi])
    rw [Addr.add_mid] at hcl
    exact hcl
/-- Its room is no less than its length. -/
theorem own_cap {w : World} {base : Nat} {a : Option Addr} {n c : Nat} {zs : List Value} (h : w.ownsRow base 5 1 (.slice a n c) n zs) : n ≤ c := by
  rcases h.2 with ⟨hv, hn⟩ | ⟨g, cap, cur, hv, hb, hg, hc, hcm, hsz, htake⟩
  · omega
  · cases hv; omega

theorem wpList_append_bin {ops : Array Oper} {rest : List Oper} {o : Oper} {a : Act} {Q : Exit → Act → World → Prop} {w : World} (hgd : o.guard = none) (s x : Operand)
    (ho : o.op = .call { callee := .builtin .append, args := #[s, x], argTypes := #[22, 22] }) (base : Nat)
    (a0 : Option Addr) (n0 c0 : Nat) (xs : List Int) (hs : a.eval s = .slice a0 n0 c0) (hown : w.ownsRow base 5 1 (.slice a0 n0 c0) n0 (u8s xs))
    (a1 : Option Addr) (n1 c1 : Nat) (zs : List Int) (hx : a.eval x = .slice a1 n1 c1) (hin : BIn w a1 n1 zs) (hnil : a1 = none → n1 = 0 ∧ c1 = 0)
    (hle : n0 + n1 ≤ 1000000) (hbase : base ≤ w.heap.size)
    (h : ∀ a' c' w', w'.ownsRow base 5 1 (.slice a' (n0 + n1) c') (n0 + n1) (u8s (xs ++ zs)) → Below base w w' → wpList Tryd.prog ops Q rest (a.put o.dst (.slice a' (n0 + n1) c')) w') :
    wpList Tryd.prog ops Q (o :: rest) a w := by
  obtain ⟨i0, hi, hz0, hz1, hz2⟩ := info_parts Tryd.zero_u8
  obtain ⟨hl, hm, hfit, hcell⟩ := hin
  cases a1 with
  | none =>
    obtain ⟨rfl, rfl⟩ := hnil rfl
    have : zs = [] := List.length_eq_zero_iff.1 hl
    subst this
    refine wpList_append_own_none hgd s x 22 ho base 5 i0 1 Tryd.underlying22 hi _ n0 (u8s xs) hs hown hx ?_
    have := h a0 c0 w (by simpa using hown) (Below.refl _ _)
    simpa using this
  | some ad =>
    refine wpList_append_own w hgd s x 22 ho base 5 i0 (.int .u8 0) 1 1 Tryd.underlying22 hi hz0 hz1 hz2 rfl (by decide) _ n0 (u8s xs) hs hown ad n1 c1 (u8s zs) hx (by simp [u8s, hl]) ?_ (u8s_one _) (by unfold maxLen; omega) (by omega) hbase ?_
    · intro j u hj
      have hjl : j < n1 := by
        have := (List.getElem?_eq_some_iff.1 hj).1
        rwa [u8s_length, hl] at this
      rcases hcell with hc | ⟨b, off, ha, hc⟩
      · omega
      · cases ha
        rw [Addr.add_mid, hc j hjl, ← hj]
        simp [u8s, List.getD, hl, hjl]
    · intro v' w' hown' hgrow _
      have hb : Below base w w' := (Below.refl base w).grown hgrow hbase (fun k hk => (hown.lt k hk).1)
      have hcat : u8s xs ++ u8s zs = u8s (xs ++ zs) := by simp [u8s]
      rw [hcat] at hown'
      obtain ⟨a', c', rfl⟩ : ∃ a' c', v' = .slice a' (n0 + n1) c' := by
        rcases hown'.2 with ⟨hv, hn⟩ | ⟨g, cap, cur, hv, _⟩
        · exact ⟨none, 0, by rw [hv, hn]⟩
        · exact ⟨_, _, hv⟩
      exact h a' c' w' hown' hb
end Go.Proofs.YtpliokkmiijieaaDoor
