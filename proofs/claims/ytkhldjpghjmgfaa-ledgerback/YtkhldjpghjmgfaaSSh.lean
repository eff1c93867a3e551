/- Shapes, and what may be; small things. -/
import Derived.Test.YtkhldjpghjmgfaaZOut
import Derived.Deep.OwnRows
namespace Go.Proofs.Ytkhldjpghjmgfaa
open Go.RowKit
set_option linter.unusedVariables false
set_option maxRecDepth 4000

theorem take_snoc {α : Type} {l : List α} {k : Nat} {x : α} (h : l[k]? = some x) : l.take (k + 1) = l.take k ++ [x] := by
  rw [List.take_add_one, h]; rfl
structure Sh where
  z : Int
  zb : Int
  b : Int
  r : Int
def shL (s : Sh) : List Value := [.int .i64 s.z, .int .i64 s.zb, .int .i64 s.b, .int .i64 s.r]
def Powers : List Int := [64, 128, 256, 512, 1024, 2048, 4096]
def RightS (s : Sh) : Prop := 6 ≤ s.z ∧ s.z ≤ 256 ∧ 8 ≤ s.zb ∧ s.zb ≤ 4096 ∧ s.b ∈ Powers ∧ 2 ≤ s.r ∧ s.r ≤ s.z - 4
instance (s : Sh) : Decidable (RightS s) := by unfold RightS; infer_instance
theorem power_bounds {b : Int} (h : b ∈ Powers) : 64 ≤ b ∧ b ≤ 4096 := by
  simp [Powers] at h
  omega

theorem within_of (n lo hi : Int) (w : World) :
    Calls Try.prog 36 #[.int .i64 n, .int .i64 lo, .int .i64 hi] w fun e w' => e = .returned (.bool (decide (lo ≤ n) && decide (n ≤ hi))) ∧ w' = w := by
  by_cases h1 : lo ≤ n
  · have e : (decide (lo ≤ n) && decide (n ≤ hi)) = decide (n ≤ hi) := by simp [h1]
    rw [e]
    go_enter Try.func36, Try.ntmps36
    go_wp2
    go_ret
    exact ⟨by simp, rfl⟩
  · have e : (decide (lo ≤ n) && decide (n ≤ hi)) = false := by simp [h1]
    rw [e]
    go_enter Try.func36, Try.ntmps36
    go_wp2
    go_ret
    exact ⟨rfl, rfl⟩

theorem made_bytes (n : Nat) (w : World) : Blk (w.alloc (.cells (madeCells #[.int .u8 0] n) 5)) w.heap.size (u8s (List.replicate n 0)) 5 := by
  refine Blk.new' rfl ?_
  apply Array.ext'
  rw [toList_madeCells_one]
  simp [u8s]
theorem blk_own {w : World} {g n : Nat} {L : List Value} {t : TypeId} (B : Nat) (h : Blk w g L t) (hn : L.length = n) (hm : n ≤ maxLen) (hB : B ≤ g) : w.ownsRow B t 1 (.slice (some ⟨g, 0, none⟩) n n) n L :=
  ⟨by omega, .inr ⟨g, n, L.toArray, rfl, hB, h, Nat.le_refl _, hm, by simp [hn], by simp [← hn]⟩⟩

end Go.Proofs.Ytkhldjpghjmgfaa
