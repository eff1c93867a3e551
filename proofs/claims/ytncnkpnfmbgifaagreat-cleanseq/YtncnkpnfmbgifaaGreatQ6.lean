/- Texts of this seat, one behind the other: SgLow, SRRight, SgR. -/
import Derived.Test.YtncnkpnfmbgifaaGreatP19
import Derived.Lib.QuietBelow
import Derived.Test.YtncnkpnfmbgifaaGreatP13
import Derived.Test.YtncnkpnfmbgifaaGreatP17
/- What one call of Low does. -/
namespace Go.Proofs.YtncnkpnfmbgifaaGreat
open Go.RowKit
set_option linter.unusedVariables false
set_option maxRecDepth 4000

set_option maxHeartbeats 800000 in
theorem gLow_of (p g : Nat) (r : Int) (L : List Int) (w : World) (h : SegP w p g r L) :
  Calls Tryz.prog 105 #[.pointer (some ⟨p, 0, none⟩)] w fun e w' => e = .returned (.bool (lowB L r)) ∧ Below w.heap.size w w' := by
 have hq : Blk (w.alloc (.cells #[.int .i64 0] 3)) w.heap.size [.int .i64 0] 3 := Blk.new' rfl rfl
 have hb0 : Below w.heap.size w (w.alloc (.cells #[.int .i64 0] 3)) := (Below.refl _ _).alloc (Nat.le_refl _) _
 obtain ⟨W, hW⟩ : ∃ W, W = w.alloc (.cells #[.int .i64 0] 3) := ⟨_, rfl⟩
 rw [← hW] at hq hb0
 have hls : CS w.heap.size w.heap.size W (listTo L 1 0).length := by
  have e0 : listTo L 1 0 = [] := rfl
  rw [e0]; exact ⟨hq, Nat.le_refl _⟩
 have hc := eachN_of w.heap.size w.heap.size p g r L 1 _ (h.belowB hb0 h.lt.1 h.lt.2) h.lt.1 h.lt.2 hls
 have HC : Hid (Calls Tryz.prog 65 #[.pointer (some ⟨p, 0, none⟩), .int .u8 1, .func (.func 152) #[] #[.pointer (some ⟨w.heap.size, 0, none⟩)]] W fun e w' => e = .returned (.tuple #[]) ∧ CS w.heap.size w.heap.size w' (listTo L 1 L.length).length ∧ Below w.heap.size W w') := hc
 have HB : Hid (Below w.heap.size w W ∧ SegP w p g r L) := ⟨hb0, h⟩
 have HW : Hid (W = w.alloc (.cells #[.int .i64 0] 3)) := hW
 clear hq hb0 hls hc h hW
 go_enter Tryz.func105, Tryz.ntmps105
 go_wp2_with (go_at_call 65; try rw [← HW.out]; refine HC.out.mono ?_; rintro e w2 ⟨rfl, l1, hb2⟩; have c2 : w2.cell? ⟨w.heap.size, 0, none⟩ = some (.int .i64 (listTo L 1 L.length).length) := l1.1.cell 0; have c3 : w2.cell? ⟨p, 1, none⟩ = some (.int .i64 r) := (HB.out.2.belowB (HB.out.1.trans hb2) HB.out.2.lt.1 HB.out.2.lt.2).c1; have HJ : Hid (Below w.heap.size w w2) := HB.out.1.trans hb2; clear l1 hb2)
 go_quiet (fail)
 go_wp2
 go_ret
 exact ⟨by unfold lowB cntZ listZ; rfl, sbelow_drewN HJ.out _⟩
end Go.Proofs.YtncnkpnfmbgifaaGreat

/- What one call of the document's Right does. -/
namespace Go.Proofs.YtncnkpnfmbgifaaGreat
open Go.RowKit
set_option linter.unusedVariables false
set_option maxRecDepth 4000

end Go.Proofs.YtncnkpnfmbgifaaGreat

/- The document's zones' states in memory, and what one call of State, turn, Fill, Clear, Found, Take does. -/
namespace Go.Proofs.YtncnkpnfmbgifaaGreat
open Go.RowKit
set_option linter.unusedVariables false
set_option maxRecDepth 4000

structure SegR (W : World) (p g c : Nat) (s : Sh) (L : List Int) : Prop where
 hp : Blk W p [.int .i64 s.z, .int .i64 s.zb, .int .i64 s.b, .int .i64 s.r, .slice (some ⟨g, 0, none⟩) L.length c] 150
 hg : W.ownsRow 0 5 1 (.slice (some ⟨g, 0, none⟩) L.length c) L.length (u8s L)
 len : 2 ≤ L.length ∧ L.length ≤ 256
 fit : ∀ x ∈ L, Fits8 x
section
variable {W W' : World} {p g c : Nat} {s : Sh} {L : List Int} {O : Nat → Prop}
theorem SegR.c3 (h : SegR W p g c s L) : W.cell? ⟨p, 3, none⟩ = some (.int .i64 s.r) := h.hp.cell 3
theorem SegR.c4 (h : SegR W p g c s L) : W.cell? ⟨p, 4, none⟩ = some (.slice (some ⟨g, 0, none⟩) L.length c) := h.hp.cell 4
theorem SegR.at (h : SegR W p g c s L) {i : Nat} (hi : i < L.length) : W.cell? ⟨g, i, none⟩ = some (.int .u8 (L.getD i 0)) := by
 rw [h.hg.cellAt i (by simp; omega)]; simp [u8s, List.getD, hi]
theorem SegR.free (h : SegR W p g c s L) (i : Nat) : W.frozen? ⟨g, i, none⟩ = false := h.hg.frozenAt i
theorem SegR.lt (h : SegR W p g c s L) : p < W.heap.size ∧ g < W.heap.size := ⟨h.hp.lt, (h.hg.lt g rfl).2⟩
theorem SegR.out (h : SegR W p g c s L) (ho : Out O W W') (h1 : ¬ O p) (h2 : ¬ O g) : SegR W' p g c s L := ⟨ho.blk h.hp h1, ho.own h.hg (fun x e => by cases e; exact h2), h.len, h.fit⟩
theorem SegR.under (h : SegR W p g c s L) (hb : Below W.heap.size W W') : SegR W' p g c s L := h.out (below_out Non hb) (fun e => e) (fun e => e)
theorem SegR.drew (h : SegR W p g c s L) : SegR W.drew p g c s L := h.out (Out.refl Non W).drew (fun e => e) (fun e => e)
theorem SegR.ne (h : SegR W p g c s L) : p ≠ g := by
 rintro rfl
 obtain ⟨cur, hc⟩ := own_at_block h.hg (g := p) rfl
 have e2 : some (Obj.cells _ 150 (0, 0)) = some (Obj.cells cur 5 (0, 0)) := (h.hp : W.heap[p]? = _).symm.trans hc
 simp at e2
theorem SegR.set (h : SegR W p g c s L) (i : Nat) {b : Int} (hb : Fits8 b) : SegR (W.setCell ⟨g, i, none⟩ (.int .u8 b)) p g c s (L.set i b) := by
 refine ⟨?_, ?_, by simpa using h.len, fun x hx => ?_⟩
 ·have := h.hp.set_other (a := ⟨g, i, none⟩) h.ne (.int .u8 b)
  simpa using this
 ·have := (h.hg.stored i (.int .u8 b)).1
  rw [show (u8s L).set i (.int .u8 b) = u8s (L.set i b) by simp [u8s, List.map_set]] at this
  simpa using this
 ·rcases List.mem_or_eq_of_mem_set hx with h' | rfl
  ·exact h.fit x h'
  ·exact hb
end

theorem dgState_of (p g c : Nat) (s : Sh) (L : List Int) (z : Int) (w : World) (h : SegR w p g c s L) :
  Calls Tryz.prog 98 #[.pointer (some ⟨p, 0, none⟩), .int .i64 z] w fun e w' => e = .returned (.int .u8 (stZ L z)) ∧ w' = w := by
 have c0 := h.c4
 obtain ⟨N, hN⟩ : ∃ N, N = L.length := ⟨_, rfl⟩
 rw [← hN] at c0
 have HS : Hid (SegR w p g c s L ∧ N = L.length) := ⟨h, hN⟩
 obtain ⟨S, hS⟩ : ∃ S, S = stZ L z := ⟨_, rfl⟩
 rw [← hS]
 have HZ : Hid (S = stZ L z) := hS
 clear h hS hN
 rcases Int.lt_or_le z 0 with h0 | h0
 ·have e : S = 0 := HZ.out.trans (stZ_out (.inl h0))
  subst e
  go_enter Tryz.func98, Tryz.ntmps98
  go_wp2
  go_ret
  exact ⟨rfl, rfl⟩
 ·rcases Int.lt_or_le z N with h1 | h1
  ·obtain ⟨i, rfl⟩ : ∃ i : Nat, z = i := ⟨z.toNat, by omega⟩
   have hi : i < L.length := by have := HS.out.2; omega
   have c1 : w.cell? ⟨g, i, none⟩ = some (.int .u8 S) := by rw [HZ.out, stZ_nat]; exact HS.out.1.at hi
   clear h0 hi
   have h1' : i < N := by omega
   go_enter Tryz.func98, Tryz.ntmps98
   go_wp2
   go_ret
   exact ⟨rfl, rfl⟩
  ·have e : S = 0 := HZ.out.trans (stZ_out (.inr (by rw [← HS.out.2]; exact h1)))
   subst e
   go_enter Tryz.func98, Tryz.ntmps98
   go_wp2
   go_ret
   exact ⟨rfl, rfl⟩

def DTurnGot (w : World) (p g c : Nat) (s : Sh) (L : List Int) (z a b : Int) (e : Ending) (w' : World) : Prop :=
 e = .returned (.bool (decide (stZ L z = a))) ∧ SegR w' p g c s (turnZ L z a b) ∧ Out (fun j => j = g) w w'
theorem dgTurn_of (p g c : Nat) (s : Sh) (L : List Int) (z a b : Int) (w : World) (h : SegR w p g c s L) (ha : a ≠ 0) (hb : Fits8 b) :
  Calls Tryz.prog 143 #[.pointer (some ⟨p, 0, none⟩), .int .i64 z, .int .u8 a, .int .u8 b] w fun e w' => DTurnGot w p g c s L z a b e w' := by
 have c0 := h.c4
 by_cases hq : stZ L z = a
 ·obtain ⟨z0, z1⟩ := stZ_in hq ha
  obtain ⟨i, rfl⟩ : ∃ i : Nat, z = i := ⟨z.toNat, by omega⟩
  have hi : i < L.length := by omega
  have fin : DTurnGot w p g c s L i a b (.returned (.bool true)) (w.setCell ⟨g, i, none⟩ (.int .u8 b)) := by
   refine ⟨by rw [decide_eq_true hq], ?_, out_one _ _ _ _⟩
   unfold turnZ
   rw [if_pos hq]
   exact h.set i hb
  have HF : Hid (DTurnGot w p g c s L i a b (.returned (.bool true)) (w.setCell ⟨g, i, none⟩ (.int .u8 b))) := fin
  have c1 := h.at hi
  have z2 := h.free i
  rw [← stZ_nat, hq] at c1
  generalize hN : L.length = N at c0 hi
  clear fin hq z0 z1 h hN ha hb
  go_enter Tryz.func143, Tryz.ntmps143
  go_wp2
  go_ret
  exact HF.out
 ·have fin : DTurnGot w p g c s L z a b (.returned (.bool false)) w := by
   refine ⟨by rw [decide_eq_false hq], ?_, Out.refl _ _⟩
   unfold turnZ
   rw [if_neg hq]
   exact h
  have HF : Hid (DTurnGot w p g c s L z a b (.returned (.bool false)) w) := fin
  obtain ⟨N, hN⟩ : ∃ N, N = L.length := ⟨_, rfl⟩
  rw [← hN] at c0
  have HS : Hid (SegR w p g c s L ∧ N = L.length ∧ ¬ stZ L z = a) := ⟨h, hN, hq⟩
  clear fin h hN ha hb hq
  rcases Int.lt_or_le z 0 with h0 | h0
  ·go_enter Tryz.func143, Tryz.ntmps143
   go_wp2
   go_ret
   exact HF.out
  ·rcases Int.lt_or_le z N with h1 | h1
   ·obtain ⟨i, rfl⟩ : ∃ i : Nat, z = i := ⟨z.toNat, by omega⟩
    have hi : i < L.length := by have := HS.out.2.1; omega
    obtain ⟨X, hX⟩ : ∃ X, X = L.getD i 0 := ⟨_, rfl⟩
    have c1 : w.cell? ⟨g, i, none⟩ = some (.int .u8 X) := by rw [hX]; exact HS.out.1.at hi
    have hne0 : ¬ X = a := by rw [hX, ← stZ_nat]; exact HS.out.2.2
    have hne : (X != a) = true := by simp [hne0]
    clear h0 hi hX hne0
    have h1' : i < N := by omega
    go_enter Tryz.func143, Tryz.ntmps143
    go_wp2
    go_ret
    exact HF.out
   ·go_enter Tryz.func143, Tryz.ntmps143
    go_wp2
    go_ret
    exact HF.out
theorem dgFill_of (p g c : Nat) (s : Sh) (L : List Int) (z : Int) (w : World) (h : SegR w p g c s L) :
  Calls Tryz.prog 93 #[.pointer (some ⟨p, 0, none⟩), .int .i64 z] w fun e w' => DTurnGot w p g c s L z 2 3 e w' := by
 have HT : Hid (Calls Tryz.prog 143 #[.pointer (some ⟨p, 0, none⟩), .int .i64 z, .int .u8 2, .int .u8 3] w fun e w' => DTurnGot w p g c s L z 2 3 e w') := dgTurn_of p g c s L z 2 3 w h (by decide) (by unfold Fits8; omega)
 clear h
 go_enter Tryz.func93, Tryz.ntmps93
 go_wp2_with (go_at_call 143; refine HT.out.mono ?_; rintro e w' ⟨rfl, h1, h2⟩)
 go_ret
 exact ⟨rfl, h1, h2⟩
theorem dgClear_of (p g c : Nat) (s : Sh) (L : List Int) (z : Int) (w : World) (h : SegR w p g c s L) :
  Calls Tryz.prog 100 #[.pointer (some ⟨p, 0, none⟩), .int .i64 z] w fun e w' => DTurnGot w p g c s L z 3 1 e w' := by
 have HT : Hid (Calls Tryz.prog 143 #[.pointer (some ⟨p, 0, none⟩), .int .i64 z, .int .u8 3, .int .u8 1] w fun e w' => DTurnGot w p g c s L z 3 1 e w') := dgTurn_of p g c s L z 3 1 w h (by decide) (by unfold Fits8; omega)
 clear h
 go_enter Tryz.func100, Tryz.ntmps100
 go_wp2_with (go_at_call 143; refine HT.out.mono ?_; rintro e w' ⟨rfl, h1, h2⟩)
 go_ret
 exact ⟨rfl, h1, h2⟩
def DTakeGot (w : World) (p g c : Nat) (s : Sh) (L : List Int) (e : Ending) (w' : World) : Prop :=
 e = .returned (.tuple #[.int .i64 (takeI L), .bool (takeB L)]) ∧ SegR w' p g c s (takeZ L) ∧ Out (fun j => j = g) w w'
theorem dgTake_of (p g c : Nat) (s : Sh) (L : List Int) (w : World) (h : SegR w p g c s L) :
  Calls Tryz.prog 142 #[.pointer (some ⟨p, 0, none⟩)] w fun e w' => DTakeGot w p g c s L e w' := by
 obtain ⟨N, hN⟩ : ∃ N, N = L.length := ⟨_, rfl⟩
 have c0 := h.c4
 rw [← hN] at c0
 have HS : Hid (SegR w p g c s L ∧ N = L.length) := ⟨h, hN⟩
 clear h hN
 go_enter Tryz.func142, Tryz.ntmps142
 go_wp2
 go_loopw [4] (fun i wr => ∃ k : Nat, i = .int .i64 k ∧ k ≤ N ∧ (∀ j, j < k → L.getD j 0 ≠ 1) ∧ wr = w) (fun i wr => N - (intOf i).toNat)
 case atStart => exact ⟨0, rfl, Nat.zero_le _, fun j hj => by omega, rfl⟩
 case round =>
  obtain ⟨k, rfl, hk, hno, rfl⟩ := hrel
  have HN : Hid (∀ j, j < k → L.getD j 0 ≠ 1) := hno
  clear hno
  rcases Nat.lt_or_ge k N with hlt | hge
  ·have hkL : k < L.length := by rw [← HS.out.2]; exact hlt
   have c1 := HS.out.1.at hkL
   have z1 := HS.out.1.free k
   obtain ⟨X, hX⟩ : ∃ X, X = L.getD k 0 := ⟨_, rfl⟩
   rw [← hX] at c1
   have HX : Hid (X = L.getD k 0 ∧ k < L.length) := ⟨hX, hkL⟩
   have hw : IntKind.i64.wrap ((k : Int) + 1) = (k : Int) + 1 := by have := HS.out.1.len.2; have := HS.out.2; rw [IntKind.wrap_i64]; omega
   clear hX hkL
   by_cases hq : X = 1
   ·have ef : firstN L 1 = k := first_is HX.out.2 (HX.out.1.symm.trans hq) HN.out
    have fin : DTakeGot wr p g c s L (.returned (.tuple #[.int .i64 k, .bool true])) (wr.setCell ⟨g, k, none⟩ (.int .u8 2)) := by
     refine ⟨?_, ?_, out_one _ _ _ _⟩
     ·simp [takeI, takeB, ef, HX.out.2]
     ·unfold takeZ
      rw [ef, if_pos HX.out.2]
      exact HS.out.1.set k (by unfold Fits8; omega)
    have HF : Hid (DTakeGot wr p g c s L (.returned (.tuple #[.int .i64 k, .bool true])) (wr.setCell ⟨g, k, none⟩ (.int .u8 2))) := fin
    clear fin ef
    subst hq
    go_wp2
    go_ret2
    exact HF.out
   ·have HQ : Hid (¬ X = 1) := hq
    go_wp2
    go_roundw
    case rel =>
     refine ⟨k + 1, by simp, by omega, fun j hj => ?_, (by first | rfl | trivial)⟩
     rcases Nat.lt_or_ge j k with h1 | h1
     ·exact HN.out j h1
     ·obtain rfl : j = k := by omega
      rw [← HX.out.1]; exact HQ.out
    case measure => simp [intOf]; omega
  ·obtain rfl : k = N := by omega
   have ef : firstN L 1 = L.length := first_none (fun j hj => HN.out j (by rw [HS.out.2]; exact hj))
   have fin : DTakeGot wr p g c s L (.returned (.tuple #[.int .i64 0, .bool false])) wr := by
    refine ⟨?_, ?_, Out.refl _ _⟩
    ·simp [takeI, takeB, ef]
    ·unfold takeZ
     rw [if_neg (by omega)]
     exact HS.out.1
   have HF : Hid (DTakeGot wr p g c s L (.returned (.tuple #[.int .i64 0, .bool false])) wr) := fin
   clear fin ef
   go_wp2
   go_ret2
   exact HF.out
end Go.Proofs.YtncnkpnfmbgifaaGreat
