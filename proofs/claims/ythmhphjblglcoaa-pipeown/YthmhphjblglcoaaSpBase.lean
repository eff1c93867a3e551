/- Bytes in the world, for a seat without sha and mac: a list of bytes that lies in the world, what a call owns, appending, a list as a string. -/
import Derived.WalkKit
import Derived.Below
import Derived.WalkSmall
import Derived.Deep.MidRow
import Derived.Deep.Upon
import Derived.Laws.CopyOwn
import Derived.OpenShut
import Derived.Lib.SlBytesConst
import Derived.Deep.Cut
import Derived.Laws.AppendOwnNone
import Derived.Laws.BytesArg
import Derived.Lib.Bytes
import Derived.Lib.LazyBuf
import Derived.Test.YthmhphjblglcoaaProg
namespace Go.Proofs.Ythmhphjblglcoaa
open Go.RowKit
set_option linter.unusedVariables false
set_option maxRecDepth 4000

def Fits8 (a : Int) : Prop := 0 ≤ a ∧ a < 256
def u8s (S : List Int) : List Value := S.map (Value.int .u8)
theorem u8s_length (L : List Int) : (u8s L).length = L.length := by simp [u8s]
theorem u8s_one (L : List Int) : ∀ v ∈ u8s L, v.oneCell' = true := by intro v hv; simp [u8s] at hv; obtain ⟨z, _, rfl⟩ := hv; rfl
theorem old_block {w : World} {a : Addr} {v : Value} (h : w.cell? a = some v) : a.block < w.heap.size := by
  rcases Nat.lt_or_ge a.block w.heap.size with h' | h'
  · exact h'
  · simp [World.cell?, Array.getElem?_eq_none h'] at h
theorem Try.zero_u8 : (Try.prog.info? 5).map (fun i => (i.zero, i.size, i.bytes)) = some (some (.int .u8 0), 1, 1) := by kernel_rfl

/-- A list of bytes that lies in the world. -/
def BIn (w : World) (a : Option Addr) (len : Nat) (zs : List Int) : Prop :=
  zs.length = len ∧ len ≤ maxLen ∧ (∀ z ∈ zs, Fits8 z) ∧
  (len = 0 ∨ ∃ b off, a = some ⟨b, off, none⟩ ∧ ∀ i, i < len → w.cell? ⟨b, off + i, none⟩ = some (.int .u8 (zs.getD i 0)))
theorem BIn.below {w w' : World} {a : Option Addr} {len : Nat} {zs : List Int} (h : BIn w a len zs) (hb : Below w.heap.size w w') : BIn w' a len zs := by
  obtain ⟨h1, h2, h3, h4⟩ := h
  refine ⟨h1, h2, h3, ?_⟩
  rcases h4 with h4 | ⟨b, off, ha, hc⟩
  · exact .inl h4
  · exact .inr ⟨b, off, ha, fun i hi => by rw [hb.cell (old_block (hc i hi))]; exact hc i hi⟩
theorem bin_none (w : World) : BIn w none 0 [] := ⟨rfl, Nat.zero_le _, by simp, .inl rfl⟩
theorem new_bin {w : World} {k n : Nat} {L : List Int} {C : Array Value} {fr : Nat × Nat} (hk : w.heap.size = k) (hC : C = (u8s L).toArray) (hn : L.length = n) (hf : ∀ z ∈ L, Fits8 z) (hm : n ≤ maxLen) :
    BIn (w.alloc (.cells C 5 fr)) (some ⟨k, 0, none⟩) n L := by
  subst hk; subst hC; subst hn
  refine ⟨rfl, hm, hf, .inr ⟨_, 0, rfl, fun i hi => ?_⟩⟩
  rw [Nat.zero_add, World.cell?_alloc_mark]
  simp [u8s, List.getD, hi]
theorem BIn.alloc {w : World} {a : Option Addr} {len : Nat} {zs : List Int} (h : BIn w a len zs) (o : Obj) : BIn (w.alloc o) a len zs := h.below ((Below.refl _ _).alloc (Nat.le_refl _) o)
theorem byte_fits {B : List Int} (h : ∀ z ∈ B, Fits8 z) (i : Nat) : Fits8 (B.getD i 0) := by
  by_cases hi : i < B.length
  · have : B.getD i 0 = B[i] := by simp [List.getD, hi]
    rw [this]; exact h _ (List.getElem_mem hi)
  · have : B.getD i 0 = 0 := by simp [List.getD, List.getElem?_eq_none (by omega : B.length ≤ i)]
    rw [this]; unfold Fits8; omega

/-- What a call owns lies in the world. -/
theorem own_bin {w : World} {base : Nat} {a : Option Addr} {n c : Nat} {zs : List Int} (h : w.ownsRow base 5 1 (.slice a n c) n (u8s zs)) (hm : n ≤ maxLen) (hz : ∀ z ∈ zs, Fits8 z) :
    BIn w a n zs := by
  have hl : zs.length = n := by have := h.1; simp [u8s] at this; omega
  refine ⟨hl, hm, hz, ?_⟩
  rcases h.2 with ⟨hv, hn⟩ | ⟨g, cap, cur, hv, hb, hg, hc, hcm, hsz, htake⟩
  · exact .inl hn
  · cases hv
    refine .inr ⟨g, 0, rfl, fun i hi => ?_⟩
    have hcl := h.cells (g := g) rfl i (.int .u8 (zs.getD i 0)) (by simp [u8s, List.getD, hl, hi])
    rw [Addr.add_mid] at hcl
    exact hcl
theorem own_nil {w : World} {base : Nat} {a : Option Addr} {n c : Nat} {zs : List Value} (h : w.ownsRow base 5 1 (.slice a n c) n zs) : a = none → n = 0 ∧ c = 0 := by
  rintro rfl
  rcases h.2 with ⟨hv, hn⟩ | ⟨g, cap, cur, hv, _⟩
  · cases hv; exact ⟨rfl, rfl⟩
  · cases hv
theorem wpList_append_bin {ops : Array Oper} {rest : List Oper} {o : Oper} {a : Act} {Q : Exit → Act → World → Prop} {w : World} (hgd : o.guard = none) (s x : Operand)
    (ho : o.op = .call { callee := .builtin .append, args := #[s, x], argTypes := #[32, 32] }) (base : Nat)
    (a0 : Option Addr) (n0 c0 : Nat) (xs : List Int) (hs : a.eval s = .slice a0 n0 c0) (hown : w.ownsRow base 5 1 (.slice a0 n0 c0) n0 (u8s xs))
    (a1 : Option Addr) (n1 c1 : Nat) (zs : List Int) (hx : a.eval x = .slice a1 n1 c1) (hin : BIn w a1 n1 zs) (hnil : a1 = none → n1 = 0 ∧ c1 = 0)
    (hle : n0 + n1 ≤ 1000000) (hbase : base ≤ w.heap.size)
    (h : ∀ a' c' w', w'.ownsRow base 5 1 (.slice a' (n0 + n1) c') (n0 + n1) (u8s (xs ++ zs)) → Below base w w' → wpList Try.prog ops Q rest (a.put o.dst (.slice a' (n0 + n1) c')) w') :
    wpList Try.prog ops Q (o :: rest) a w := by
  obtain ⟨i0, hi, hz0, hz1, hz2⟩ := info_parts Try.zero_u8
  obtain ⟨hl, hm, hfit, hcell⟩ := hin
  cases a1 with
  | none =>
    obtain ⟨rfl, rfl⟩ := hnil rfl
    have : zs = [] := List.length_eq_zero_iff.1 hl
    subst this
    refine wpList_append_own_none hgd s x 32 ho base 5 i0 1 Try.underlying32 hi _ n0 (u8s xs) hs hown hx ?_
    have := h a0 c0 w (by simpa using hown) (Below.refl _ _)
    simpa using this
  | some ad =>
    refine wpList_append_own w hgd s x 32 ho base 5 i0 (.int .u8 0) 1 1 Try.underlying32 hi hz0 hz1 hz2 rfl (by decide) _ n0 (u8s xs) hs hown ad n1 c1 (u8s zs) hx (by simp [u8s, hl]) ?_ (u8s_one _) (by unfold maxLen; omega) (by omega) hbase ?_
    · intro j u hj
      have hjl : j < n1 := by
        have := (List.getElem?_eq_some_iff.1 hj).1
        rwa [u8s_length, hl] at this
      rcases hcell with hc | ⟨b, off, ha, hc⟩
      · omega
      · cases ha
        rw [Addr.add_mid, hc j hjl, ← hj]
        simp [u8s, List.getD, hl, hjl]
    · intro v' w' hown' hgrow _
      have hb : Below base w w' := (Below.refl base w).grown hgrow hbase (fun k hk => (hown.lt k hk).1)
      have hcat : u8s xs ++ u8s zs = u8s (xs ++ zs) := by simp [u8s]
      rw [hcat] at hown'
      obtain ⟨a', c', rfl⟩ : ∃ a' c', v' = .slice a' (n0 + n1) c' := by
        rcases hown'.2 with ⟨hv, hn⟩ | ⟨g, cap, cur, hv, _⟩
        · exact ⟨none, 0, by rw [hv, hn]⟩
        · exact ⟨_, _, hv⟩
      exact h a' c' w' hown' hb
theorem str_of (w : World) (a : Option Addr) (n c : Nat) (zs : List Int) (h : BIn w a n zs) : (convert 32 9 (.slice a n c)).run Try.prog w = .ok (.string (strOfNums zs)) w := by
  obtain ⟨hl, _, _, hc⟩ := h
  by_cases h0 : n = 0
  · subst h0
    obtain rfl := List.length_eq_zero_iff.1 hl
    cases a with
    | none => exact run_convert_bytes_nil w 32 5 Try.underlying32 Try.underlying5 0 c 9 Try.underlying9
    | some ad =>
      have hl : (loadCells ad 0).run Try.prog w = .ok (([] : List Int).map (Value.int .u8)).toArray w := by simp [loadCells, loadCellsFrom]
      rw [run_convert_bytes_string w 32 9 5 _ 0 c Try.underlying32 Try.underlying5 Try.underlying9, run_bytesToString w _ 0 c [] hl, foldl_push_bytes]
      rfl
  · obtain ⟨b, off, rfl, hcell⟩ := hc.resolve_left h0
    exact run_convert_bytes_arg w 32 5 Try.underlying32 Try.underlying5 b off n c zs hl hcell 9 Try.underlying9
theorem row_bin {w : World} {a : Option Addr} {len cap : Nat} {zs : List Int}
    (h : (a = none ∧ len = 0 ∧ cap = 0 ∧ zs = []) ∨
      ∃ x, a = some x ∧ len ≤ cap ∧ cap ≤ maxLen ∧ zs.length = cap ∧ (∀ i, i < zs.length → w.cell? (x.add i) = some (.int .u8 (zs.getD i 0))) ∧ ∀ n ∈ zs, (Lit.int .u8 n).wf = true) :
    BIn w a len (zs.take len) ∧ len ≤ cap ∧ (a = none → len = 0 ∧ cap = 0) := by
  rcases h with ⟨rfl, rfl, rfl, rfl⟩ | ⟨x, rfl, hl, hm, hz, hc, hw⟩
  · exact ⟨⟨rfl, Nat.zero_le _, by simp, .inl rfl⟩, Nat.le_refl _, fun _ => ⟨rfl, rfl⟩⟩
  · refine ⟨⟨by simp [hz]; omega, Nat.le_trans hl hm, fun z h => by have := bounds_u8 (hw z (List.mem_of_mem_take h)); unfold Fits8; omega, ?_⟩, hl, fun h => by cases h⟩
    by_cases h0 : len = 0
    · exact .inl h0
    · have hc0 := hc 0 (by omega)
      obtain ⟨b, off, spot⟩ := x
      have hs : spot = none := by simpa [Addr.add] using World.cell?_spot hc0
      subst hs
      refine .inr ⟨b, off, rfl, fun i hi => ?_⟩
      have := hc i (by omega)
      rw [Addr.add_mid] at this
      simpa [List.getD, List.getElem?_take, hi] using this
end Go.Proofs.Ythmhphjblglcoaa
