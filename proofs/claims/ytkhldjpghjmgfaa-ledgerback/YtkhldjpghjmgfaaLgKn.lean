/- The chapter's example. -/
import Derived.Test.YtkhldjpghjmgfaaLgTn
namespace Go.Proofs.Ytkhldjpghjmgfaa
open Go.RowKit
set_option linter.unusedVariables false
set_option maxRecDepth 4000

/-- One tenant, in a row of one. -/
def tn1 (i q : Int) : Tn := ⟨i, none, 0, 0, q, 0, none, 0, 0⟩
theorem one_ts {w : World} {g : Nat} {i q : Int} (hi : FitsW i) (hq : FitsQ q) (h : Blk w g (tC (tn1 i q)) 48) : TsL w (some ⟨g, 0, none⟩) 1 [tn1 i q] :=
  ⟨rfl, fun t ht => by
    have : t = tn1 i q := by simpa using ht
    subst this
    exact ⟨hi, hq, show (0 : Int) ≤ 0 ∧ (0 : Int) < 18446744073709551616 by decide⟩, .inr ⟨g, 0, rfl, fun k t ht => by
    cases k with
    | zero => cases ht; exact h.whole
    | succ k => simp at ht⟩⟩
theorem lTake_b (p b1 b2 n m : Nat) (Q : Qs) (u : Int → Int) (t c : Int) (b : Bool) (w : World) (h : LP w p b1 b2 n m Q u) (ht : FitsW t) (hc : FitsQ c) (hm : m < 100000) (hb : okL Q u (false, t, c) = b) :
    Calls Try.prog 24 #[.pointer (some ⟨p, 0, none⟩), .int .u32 t, .int .u64 c] w fun e w' => e = .returned (.bool b) ∧ LP w' p b1 b2 n (m + 1) Q (doL Q u (false, t, c)) ∧ Out (InB b2) w w' := by
  subst hb; exact lTake_of p b1 b2 n m Q u t c w h ht hc hm
theorem lGive_b (p b1 b2 n m : Nat) (Q : Qs) (u : Int → Int) (t c : Int) (b : Bool) (w : World) (h : LP w p b1 b2 n m Q u) (ht : FitsW t) (hc : FitsQ c) (hm : m < 100000) (hb : okL Q u (true, t, c) = b) :
    Calls Try.prog 23 #[.pointer (some ⟨p, 0, none⟩), .int .u32 t, .int .u64 c] w fun e w' => e = .returned (.bool b) ∧ LP w' p b1 b2 n (m + 1) Q (doL Q u (true, t, c)) ∧ Out (InB b2) w w' := by
  subst hb; exact lGive_of p b1 b2 n m Q u t c w h ht hc hm
theorem lLeft_b (p b1 b2 n m : Nat) (Q : Qs) (u : Int → Int) (t v : Int) (w : World) (h : LP w p b1 b2 n m Q u) (ht : FitsW t) (hv : quoI Q t - u t = v) :
    Calls Try.prog 18 #[.pointer (some ⟨p, 0, none⟩), .int .u32 t] w fun e w' => e = .returned (.int .u64 v) ∧ ∃ j, w' = w.drewN j := by
  subst hv; exact lLeft_of p b1 b2 n m Q u t w h ht
def kU0 : Int → Int := fun _ => 0
def kU1 : Int → Int := doL [(1, 5)] kU0 (false, 1, 3)
def kU2 : Int → Int := doL [(1, 5)] kU1 (false, 1, 3)
def kU3 : Int → Int := doL [(1, 5)] kU2 (true, 1, 1)
def kU4 : Int → Int := doL [(1, 5)] kU3 (false, 2, 1)
theorem lknown_any (w : World) : Calls Try.prog 9 #[] w fun e w' => e = .returned (.bool true) ∧ Below w.heap.size w w' := by
  have f1 : FitsW 1 := ⟨by decide, by decide⟩
  have f2 : FitsW 2 := ⟨by decide, by decide⟩
  have g0 : FitsQ 0 := ⟨by decide, by decide⟩
  have g1 : FitsQ 1 := ⟨by decide, by decide⟩
  have g3 : FitsQ 3 := ⟨by decide, by decide⟩
  have g5 : FitsQ 5 := ⟨by decide, by decide⟩
  have hB : Blk (w.alloc (.cells #[.int .u32 1, .slice none 0 0, .int .u64 5, .int .u64 0, .slice none 0 0] 48)) w.heap.size (tC (tn1 1 5)) 48 := Blk.new' rfl rfl
  have c0 := lNew_of (some ⟨w.heap.size, 0, none⟩) 1 1 [tn1 1 5] _ (one_ts f1 g5 hB) (by decide)
  have b0 : Below w.heap.size w (w.alloc (.cells #[.int .u32 1, .slice none 0 0, .int .u64 5, .int .u64 0, .slice none 0 0] 48)) := (Below.refl _ _).alloc (Nat.le_refl _) _
  clear hB
  go_enter Try.func9, Try.ntmps9
  go_wp2_with (go_at_call 13; refine c0.mono ?_; clear c0; rintro e w0 ⟨p, b1, b2, rfl, h0, bl, l1, l2, l3⟩)
  replace h0 : LP w0 p b1 b2 1 0 [(1, 5)] kU0 := h0
  have B0 : Below w.heap.size w w0 := b0.trans (bl.mono b0.size)
  have hl : w.heap.size ≤ b2 := Nat.le_trans b0.size l3
  clear b0 bl l1 l2 l3
  have c1 := lTake_b p b1 b2 1 0 [(1, 5)] kU0 1 3 true w0 h0 f1 g3 (by decide) (by decide)
  go_wp2_with (go_at_call 24; refine c1.mono ?_; clear c1; rintro e w1 ⟨rfl, h1, o1⟩)
  have B1 : Below w.heap.size w w1 := B0.trans (o1.below B0.size (by rintro j rfl; exact hl))
  have c1 := lTake_b p b1 b2 1 1 [(1, 5)] kU1 1 3 false w1 h1 f1 g3 (by decide) (by decide)
  clear o1 B0 h0
  go_wp2_with (go_at_call 24; refine c1.mono ?_; clear c1; rintro e w2 ⟨rfl, h2, o2⟩)
  have B2 : Below w.heap.size w w2 := B1.trans (o2.below B1.size (by rintro j rfl; exact hl))
  have c1 := lGive_b p b1 b2 1 2 [(1, 5)] kU2 1 1 true w2 h2 f1 g1 (by decide) (by decide)
  clear o2 B1 h1
  go_wp2_with (go_at_call 23; refine c1.mono ?_; clear c1; rintro e w3 ⟨rfl, h3, o3⟩)
  have B3 : Below w.heap.size w w3 := B2.trans (o3.below B2.size (by rintro j rfl; exact hl))
  have c1 := lLeft_b p b1 b2 1 3 [(1, 5)] kU3 1 3 w3 h3 f1 (by decide)
  clear o3 B2 h2
  go_wp2_with (go_at_call 18; refine c1.mono ?_; clear c1; rintro e w4 ⟨rfl, j, rfl⟩)
  have B4 : Below w.heap.size w (w3.drewN j) := B3.trans (drewN_below _ _ _)
  have c1 := lTake_b p b1 b2 1 3 [(1, 5)] kU3 2 1 false (w3.drewN j) (h3.drewN j) f2 g1 (by decide) (by decide)
  clear B3
  go_wp2_with (go_at_call 24; refine c1.mono ?_; clear c1; rintro e w5 ⟨rfl, h5, o5⟩)
  have B5 : Below w.heap.size w w5 := B4.trans (o5.below B4.size (by rintro j rfl; exact hl))
  have c1 := lTake_b p b1 b2 1 4 [(1, 5)] kU4 2 0 true w5 h5 f2 g0 (by decide) (by decide)
  clear o5 B4 h3
  go_wp2_with (go_at_call 24; refine c1.mono ?_; clear c1; rintro e w6 ⟨rfl, h6, o6⟩)
  go_ret
  exact ⟨rfl, B5.trans (o6.below B5.size (by rintro j rfl; exact hl))⟩
end Go.Proofs.Ytkhldjpghjmgfaa
