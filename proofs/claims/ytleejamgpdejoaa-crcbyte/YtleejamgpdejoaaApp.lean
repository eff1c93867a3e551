/- Appending a list of bytes that lies in the world to a list that the call itself made: what is then owned is the one list behind the other; and what Sum says of two and of three lists. -/
import Derived.Test.YtleejamgpdejoaaKnown
import Derived.Laws.AppendOwnNone
namespace Go.Proofs.Ytleejamgpdejoaa
open Go.RowKit
set_option linter.unusedVariables false

theorem Try.info5 : (Try.prog.info? 5).map (fun i => (i.zero, i.size, i.bytes)) = some (some (.int .u8 0), 1, 1) := by kernel_rfl

def bytesV (zs : List Int) : List Value := zs.map (Value.int .u8)

/-- What a call owns lies in the world. -/
theorem own_in {w : World} {base : Nat} {a : Option Addr} {n c : Nat} {zs : List Int} (h : w.ownsRow base 5 1 (.slice a n c) n (bytesV zs)) (hm : n ≤ maxLen) (hz : ∀ z ∈ zs, Fits8 z) :
    Lst.In ⟨a, n, c, zs⟩ w := by
  have hl : zs.length = n := by have := h.1; simp [bytesV] at this; omega
  refine ⟨hl, hm, hz, ?_⟩
  rcases h.2 with ⟨hv, hn⟩ | ⟨g, cap, cur, hv, hb, hg, hc, hcm, hsz, htake⟩
  · exact .inl hn
  · cases hv
    refine .inr ⟨g, 0, rfl, fun i hi => ?_⟩
    replace hi : i < n := hi
    have hcl := h.cells (g := g) rfl i (.int .u8 (zs.getD i 0)) (by simp [bytesV, List.getD, hl, hi])
    have hadd : (⟨g, 0, none⟩ : Addr).add i = ⟨g, 0 + i, none⟩ := by
      unfold Addr.add; by_cases h : i = 0
      · subst h; simp
      · simp [h]
    rw [hadd] at hcl
    exact hcl

theorem wpList_append_lst {ops : Array Oper} {rest : List Oper} {o : Oper} {a : Act} {Q : Exit → Act → World → Prop} {w : World} (hgd : o.guard = none) (s x : Operand)
    (ho : o.op = .call { callee := .builtin .append, args := #[s, x], argTypes := #[22, 22] }) (base : Nat)
    (a0 : Option Addr) (n0 c0 : Nat) (xs : List Int) (hs : a.eval s = .slice a0 n0 c0) (hown : w.ownsRow base 5 1 (.slice a0 n0 c0) n0 (bytesV xs))
    (a1 : Option Addr) (n1 c1 : Nat) (zs : List Int) (hx : a.eval x = .slice a1 n1 c1) (hin : Lst.In ⟨a1, n1, c1, zs⟩ w) (hnil : a1 = none → n1 = 0 ∧ c1 = 0)
    (hle : n0 + n1 ≤ 1000000) (hbase : base ≤ w.heap.size)
    (h : ∀ a' c' w', w'.ownsRow base 5 1 (.slice a' (n0 + n1) c') (n0 + n1) (bytesV (xs ++ zs)) → Below base w w' → wpList Try.prog ops Q rest (a.put o.dst (.slice a' (n0 + n1) c')) w') :
    wpList Try.prog ops Q (o :: rest) a w := by
  obtain ⟨i0, hi, hz0, hz1, hz2⟩ := info_parts Try.info5
  obtain ⟨hl, hm, hfit, hcell⟩ := hin
  replace hl : zs.length = n1 := hl
  cases a1 with
  | none =>
    obtain ⟨rfl, rfl⟩ := hnil rfl
    have : zs = [] := List.length_eq_zero_iff.1 hl
    subst this
    refine wpList_append_own_none hgd s x 22 ho base 5 i0 1 Try.underlying22 hi _ n0 (bytesV xs) hs hown hx ?_
    have := h a0 c0 w (by simpa using hown) (Below.refl _ _)
    simpa using this
  | some ad =>
    refine wpList_append_own w hgd s x 22 ho base 5 i0 (.int .u8 0) 1 1 Try.underlying22 hi hz0 hz1 hz2 rfl (by decide) _ n0 (bytesV xs) hs hown ad n1 c1 (bytesV zs) hx (by simp [bytesV, hl]) ?_ (ints_oneCell _ _) (by unfold maxLen; omega) (by omega) hbase ?_
    · intro j u hj
      have hjl : j < n1 := by
        rw [List.getElem?_eq_some_iff] at hj
        obtain ⟨hj, _⟩ := hj
        simpa [bytesV, hl] using hj
      replace hcell : n1 = 0 ∨ ∃ b off, (some ad) = some ⟨b, off, none⟩ ∧ ∀ i, i < n1 → w.cell? ⟨b, off + i, none⟩ = some (.int .u8 (zs.getD i 0)) := hcell
      rcases hcell with hc | ⟨b, off, ha, hc⟩
      · omega
      · cases ha
        have hadd : (⟨b, off, none⟩ : Addr).add j = ⟨b, off + j, none⟩ := by
          unfold Addr.add; by_cases h : j = 0
          · subst h; simp
          · simp [h]
        rw [hadd, hc j hjl]
        rw [← hj]
        simp [bytesV, List.getD, hl, hjl]
    · intro v' w' hown' hgrow _
      have hb : Below base w w' := (Below.refl base w).grown hgrow hbase (fun k hk => (hown.lt k hk).1)
      have hcat : bytesV xs ++ bytesV zs = bytesV (xs ++ zs) := by simp [bytesV]
      rw [hcat] at hown'
      obtain ⟨a', c', rfl⟩ : ∃ a' c', v' = .slice a' (n0 + n1) c' := by
        rcases hown'.2 with ⟨hv, hn⟩ | ⟨g, cap, cur, hv, _⟩
        · exact ⟨none, 0, by rw [hv, hn]⟩
        · exact ⟨_, _, hv⟩
      exact h a' c' w' hown' hb

theorem sum_two {a b : Option Addr} {m n c d : Nat} {xs ys : List Int} (w : World) (h : Lst.In ⟨a, m, c, xs⟩ w) (k : Lst.In ⟨b, n, d, ys⟩ w) :
    Calls Try.prog 8 #[.slice (some ⟨w.heap.size, 0, none⟩) 2 2] (w.alloc (.cells #[.slice a m c, .slice b n d] 22)) fun e w' => e = .returned (.int .u32 (sumI 0 (xs ++ ys))) ∧ w' = w.alloc (.cells #[.slice a m c, .slice b n d] 22) :=
  sum_new w [⟨a, m, c, xs⟩, ⟨b, n, d, ys⟩] _ 2 2 (xs ++ ys) rfl rfl (by unfold maxLen; omega) (by intro l hl; simp at hl; rcases hl with rfl | rfl; exact h; exact k) (by simp [bytesOf])

theorem byte_in (w : World) (z : Int) (hz : Fits8 z) : Lst.In ⟨some ⟨w.heap.size, 0, none⟩, 1, 1, [z]⟩ (w.alloc (.cells #[.int .u8 z] 5)) := by
  refine ⟨rfl, by show (1 : Nat) ≤ maxLen; unfold maxLen; omega, by simpa using hz, .inr ⟨w.heap.size, 0, rfl, fun i hi => ?_⟩⟩
  rw [World.cell?_alloc_mark, Nat.zero_add]
  match i, hi with
  | 0, _ => rfl

theorem sum_three {a b : Option Addr} {m n c d : Nat} {xs ys : List Int} {z : Int} (w : World) (k : Nat) (hk : w.heap.size = k) (h : Lst.In ⟨a, m, c, xs⟩ w) (h' : Lst.In ⟨b, n, d, ys⟩ w) (hz : Fits8 z) :
    Calls Try.prog 8 #[.slice (some ⟨k + 1, 0, none⟩) 3 3] ((w.alloc (.cells #[.int .u8 z] 5)).alloc (.cells #[.slice a m c, .slice b n d, .slice (some ⟨k, 0, none⟩) 1 1] 22)) fun e w' =>
      e = .returned (.int .u32 (nextI (sumI 0 (xs ++ ys)) z)) ∧ w' = (w.alloc (.cells #[.int .u8 z] 5)).alloc (.cells #[.slice a m c, .slice b n d, .slice (some ⟨k, 0, none⟩) 1 1] 22) := by
  subst hk
  have hs : (w.alloc (.cells #[.int .u8 z] 5)).heap.size = w.heap.size + 1 := by simp
  have := sum_new (w.alloc (.cells #[.int .u8 z] 5)) [⟨a, m, c, xs⟩, ⟨b, n, d, ys⟩, ⟨some ⟨w.heap.size, 0, none⟩, 1, 1, [z]⟩] #[.slice a m c, .slice b n d, .slice (some ⟨w.heap.size, 0, none⟩) 1 1] 3 3 ((xs ++ ys) ++ [z]) rfl rfl (by unfold maxLen; omega)
    (by intro l hl; simp at hl; rcases hl with rfl | rfl | rfl; exact h.alloc _; exact h'.alloc _; exact byte_in w z hz) (by simp [bytesOf])
  rw [hs, sumI_snoc] at this
  exact this

theorem Lst.In.drew {l : Lst} {w : World} (h : l.In w) : l.In w.drew := h.below (Below.refl _ _).drew

/-- One list whose header lies in a cell. -/
theorem sum_cell {a : Option Addr} {len cap g c : Nat} {zs : List Int} (w : World) (hc : w.cell? ⟨g, 0, none⟩ = some (.slice a len cap)) (h : Lst.In ⟨a, len, cap, zs⟩ w) :
    Calls Try.prog 8 #[.slice (some ⟨g, 0, none⟩) 1 c] w fun e w' => e = .returned (.int .u32 (sumI 0 zs)) ∧ w' = w := by
  have := sum_any (some ⟨g, 0, none⟩) c 1 [⟨a, len, cap, zs⟩] w rfl ⟨by unfold maxLen; simp, by intro l hl; simp at hl; subst hl; exact h, .inr ⟨g, 0, rfl, fun i hi => by
    match i, hi with
    | 0, _ => exact hc⟩⟩
  simpa [bytesOf] using this

/-- A byte of a list that the call owns is turned: the cell is there, it may be written, and behind the store the list is the turned one. -/
theorem own_set {W : World} {base : Nat} {A : Option Addr} {n C t : Nat} {Z : List Int} (ow : W.ownsRow base 5 1 (.slice A n C) n (bytesV Z)) (ht : t < n) (hm : n ≤ maxLen) (hZ : ∀ z ∈ Z, Fits8 z) (z : Int) (hz : Fits8 z) :
    ∃ g, A = some ⟨g, 0, none⟩ ∧ base ≤ g ∧ g < W.heap.size ∧ W.cell? ⟨g, t, none⟩ = some (.int .u8 (Z.getD t 0)) ∧ W.frozen? ⟨g, t, none⟩ = false ∧
      Lst.In ⟨some ⟨g, 0, none⟩, n, C, Z.set t z⟩ (W.setCell ⟨g, t, none⟩ (.int .u8 z)) := by
  have hin := own_in ow hm hZ
  have hl : Z.length = n := hin.1
  rcases ow.2 with ⟨_, hn⟩ | ⟨g, cap, cur, hv, hb, hg, hc, hcm, hsz, htake⟩
  · omega
  · cases hv
    have hcell : ∀ i, i < n → W.cell? ⟨g, i, none⟩ = some (.int .u8 (Z.getD i 0)) := by
      intro i hi
      rcases hin.2.2.2 with h | ⟨b, off, ha, hc'⟩
      · replace h : n = 0 := h; omega
      · cases ha
        have := hc' i hi
        rwa [Nat.zero_add] at this
    have hlt := (Array.getElem?_eq_some_iff.1 hg).1
    refine ⟨g, rfl, hb, hlt, hcell t ht, ?_, ?_⟩
    · simp [World.frozen?, hg]
    · refine ⟨by simp [hl], hm, ?_, .inr ⟨g, 0, rfl, fun i hi => ?_⟩⟩
      · intro y hy
        rcases List.mem_or_eq_of_mem_set hy with h | h
        · exact hZ y h
        · rw [h]; exact hz
      · replace hi : i < n := hi
        rw [Nat.zero_add]
        by_cases h : i = t
        · subst h
          have : (W.setCell ⟨g, i, none⟩ (.int .u8 z)).cell? ⟨g, i, none⟩ = some (.int .u8 z) := World.cell?_setCell_same _ _ _ (hcell i hi)
          simpa [List.getD, hl, hi] using this
        · have : (W.setCell ⟨g, t, none⟩ (.int .u8 z)).cell? ⟨g, i, none⟩ = W.cell? ⟨g, i, none⟩ := World.cell?_setCell_other _ _ _ _ (by intro e; cases e; exact h rfl)
          rw [this, hcell i hi]
          have ht' : ¬ t = i := fun e => h e.symm
          simp [List.getD, ht']
end Go.Proofs.Ytleejamgpdejoaa
