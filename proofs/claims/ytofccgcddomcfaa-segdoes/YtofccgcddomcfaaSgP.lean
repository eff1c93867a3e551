/- The program's zones' states in memory, and what one call of State, turn, Fill, Clear, Found, Index, Take does. -/
import Derived.Test.YtofccgcddomcfaaSSh
import Derived.Test.YtofccgcddomcfaaSgMath
namespace Go.Proofs.Ytofccgcddomcfaa
open Go.RowKit
set_option linter.unusedVariables false
set_option maxRecDepth 4000

theorem blk_ne' {W : World} {g g' : Nat} {L L' : List Value} {t t' : TypeId} (h : Blk W g L t) (h' : Blk W g' L' t') (ht : t ≠ t') : g ≠ g' := by
  rintro rfl
  have e : some (Obj.cells L.toArray t (0, 0)) = some (Obj.cells L'.toArray t' (0, 0)) := h.symm.trans h'
  simp only [Option.some.injEq, Obj.cells.injEq] at e
  exact ht e.2.1
theorem below_drewN {n : Nat} {w w' : World} (h : Below n w w') (k : Nat) : Below n w (w'.drewN k) := ⟨h.os, h.tape, h.output, h.size, h.block⟩
theorem below_less {n m : Nat} {w w' : World} (h : Below m w w') (hn : n ≤ m) : Below n w w' := ⟨h.os, h.tape, h.output, h.size, fun k hk => h.block k (by omega)⟩
structure SegP (W : World) (p g : Nat) (r : Int) (L : List Int) : Prop where
  hp : Blk W p [.slice (some ⟨g, 0, none⟩) L.length L.length, .int .i64 r] 46
  hg : Blk W g (u8s L) 5
  len : 2 ≤ L.length ∧ L.length ≤ 256
  fit : ∀ x ∈ L, Fits8 x
section
variable {W W' : World} {p g : Nat} {r : Int} {L : List Int} {O : Nat → Prop}
theorem SegP.c0 (h : SegP W p g r L) : W.cell? ⟨p, 0, none⟩ = some (.slice (some ⟨g, 0, none⟩) L.length L.length) := h.hp.cell 0
theorem SegP.c1 (h : SegP W p g r L) : W.cell? ⟨p, 1, none⟩ = some (.int .i64 r) := h.hp.cell 1
theorem SegP.at (h : SegP W p g r L) {i : Nat} (hi : i < L.length) : W.cell? ⟨g, i, none⟩ = some (.int .u8 (L.getD i 0)) := by
  rw [h.hg.cell]; simp [u8s, List.getD, hi]
theorem SegP.free (h : SegP W p g r L) (i : Nat) : W.frozen? ⟨g, i, none⟩ = false := h.hg.frozen i
theorem SegP.lt (h : SegP W p g r L) : p < W.heap.size ∧ g < W.heap.size := ⟨h.hp.lt, h.hg.lt⟩
theorem SegP.out (h : SegP W p g r L) (ho : Out O W W') (h1 : ¬ O p) (h2 : ¬ O g) : SegP W' p g r L := ⟨ho.blk h.hp h1, ho.blk h.hg h2, h.len, h.fit⟩
theorem SegP.under (h : SegP W p g r L) (hb : Below W.heap.size W W') : SegP W' p g r L := h.out (below_out Non hb) (fun e => e) (fun e => e)
theorem SegP.ne (h : SegP W p g r L) : p ≠ g := blk_ne' h.hp h.hg (by decide)
theorem SegP.set (h : SegP W p g r L) (i : Nat) {b : Int} (hb : Fits8 b) : SegP (W.setCell ⟨g, i, none⟩ (.int .u8 b)) p g r (L.set i b) := by
  refine ⟨?_, ?_, by simpa using h.len, fun x hx => ?_⟩
  · have := h.hp.set_other (a := ⟨g, i, none⟩) h.ne (.int .u8 b)
    simpa using this
  · have := h.hg.set i (.int .u8 b)
    rw [show (u8s L).set i (.int .u8 b) = u8s (L.set i b) by simp [u8s, List.map_set]] at this
    exact this
  · rcases List.mem_or_eq_of_mem_set hx with h' | rfl
    · exact h.fit x h'
    · exact hb
theorem out_one (w : World) (g i : Nat) (v : Value) : Out (fun j => j = g) w (w.setCell ⟨g, i, none⟩ v) := (Out.refl (fun j => j = g) w).setCell (p := ⟨g, i, none⟩) (.inl rfl) v
end

theorem gState_of (p g : Nat) (r : Int) (L : List Int) (z : Int) (w : World) (h : SegP w p g r L) :
    Calls Try.prog 18 #[.pointer (some ⟨p, 0, none⟩), .int .i64 z] w fun e w' => e = .returned (.int .u8 (stZ L z)) ∧ w' = w := by
  have c0 := h.c0
  obtain ⟨N, hN⟩ : ∃ N, N = L.length := ⟨_, rfl⟩
  rw [← hN] at c0
  have HS : Hid (SegP w p g r L ∧ N = L.length) := ⟨h, hN⟩
  obtain ⟨S, hS⟩ : ∃ S, S = stZ L z := ⟨_, rfl⟩
  rw [← hS]
  have HZ : Hid (S = stZ L z) := hS
  clear h hS hN
  rcases Int.lt_or_le z 0 with h0 | h0
  · have e : S = 0 := HZ.out.trans (stZ_out (.inl h0))
    subst e
    go_enter Try.func18, Try.ntmps18
    go_wp2
    go_ret
    exact ⟨rfl, rfl⟩
  · rcases Int.lt_or_le z N with h1 | h1
    · obtain ⟨i, rfl⟩ : ∃ i : Nat, z = i := ⟨z.toNat, by omega⟩
      have hi : i < L.length := by have := HS.out.2; omega
      have c1 : w.cell? ⟨g, i, none⟩ = some (.int .u8 S) := by rw [HZ.out, stZ_nat]; exact HS.out.1.at hi
      clear h0 hi
      have h1' : i < N := by omega
      go_enter Try.func18, Try.ntmps18
      go_wp2
      go_ret
      exact ⟨rfl, rfl⟩
    · have e : S = 0 := HZ.out.trans (stZ_out (.inr (by rw [← HS.out.2]; exact h1)))
      subst e
      go_enter Try.func18, Try.ntmps18
      go_wp2
      go_ret
      exact ⟨rfl, rfl⟩
end Go.Proofs.Ytofccgcddomcfaa
