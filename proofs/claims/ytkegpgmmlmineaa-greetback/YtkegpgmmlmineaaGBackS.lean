/- Appending a text's bytes to a row of bytes of the call's own. -/
import Derived.Test.YtkegpgmmlmineaaGBackM
namespace Go.Proofs.Ytkegpgmmlmineaa
open Go.RowKit
set_option linter.unusedVariables false
set_option maxRecDepth 4000

theorem wpList_append_str {ops : Array Oper} {rest : List Oper} {o : Oper} {a : Act} {Q : Exit → Act → World → Prop} {w : World} (hgd : o.guard = none) (s x : Operand)
    (ho : o.op = .call { callee := .builtin .append, args := #[s, x], argTypes := #[22, 9] }) (base : Nat)
    (a0 : Option Addr) (n0 c0 : Nat) (xs : List Int) (hs : a.eval s = .slice a0 n0 c0) (hown : w.ownsRow base 5 1 (.slice a0 n0 c0) n0 (u8s xs))
    (t : ByteArray) (hx : a.eval x = .string t) (hle : n0 + t.size ≤ 1000000) (hbase : base ≤ w.heap.size)
    (h : ∀ a' c' w', w'.ownsRow base 5 1 (.slice a' (n0 + t.size) c') (n0 + t.size) (u8s (xs ++ nums t)) → Below base w w' → wpList Try.prog ops Q rest (a.put o.dst (.slice a' (n0 + t.size) c')) w') :
    wpList Try.prog ops Q (o :: rest) a w := by
  obtain ⟨i0, hi, hz0, hz1, hz2⟩ := info_parts Try.zero_u8
  refine Lib.wpList_append_own_string (P := Try.prog) w hgd s x 22 9 ho base 5 i0 Try.underlying22 Try.underlying9 hi hz0 hz1 hz2 _ n0 (u8s xs) hs hown t hx (by unfold maxLen; omega) (by omega) hbase ?_
  intro v' w' hown' hgrow _
  have hb : Below base w w' := (Below.refl base w).grown hgrow hbase (fun k hk => (hown.lt k hk).1)
  have hcat : u8s xs ++ Lib.strCells t = u8s (xs ++ nums t) := by rw [nums_cells]; simp [u8s]
  rw [hcat] at hown'
  obtain ⟨a', c', rfl⟩ : ∃ a' c', v' = .slice a' (n0 + t.size) c' := by
    rcases hown'.2 with ⟨hv, hn⟩ | ⟨g, cap, cur, hv, _⟩
    · exact ⟨none, 0, by rw [hv, hn]⟩
    · exact ⟨_, _, hv⟩
  exact h a' c' w' hown' hb
theorem fits16 {z : Int} (h : (Lit.int .u16 z).wf = true) : Fits16 z := by have := bounds_u16 h; unfold Fits16; omega
end Go.Proofs.Ytkegpgmmlmineaa
