/- A ledger of the program's in memory; what its calls tell, and do. -/
import Derived.Test.YtkhldjpghjmgfaaLgMap
namespace Go.Proofs.Ytkhldjpghjmgfaa
open Go.RowKit
set_option linter.unusedVariables false
set_option maxRecDepth 4000

/-- Behind p: a map of quotas, a map of what was used. -/
structure LP (w : World) (p b1 b2 n m : Nat) (Q : Qs) (u : Int → Int) : Prop where
  hp : Blk w p [.map (some b1), .map (some b2)] 58
  hq : QMap w b1 n Q
  hu : UMap w b2 m u
  ne : b1 ≠ b2
  ri : Rise Q
  qf : QF Q
  wi : Within Q u
section
variable {w w' : World} {p b1 b2 n m : Nat} {Q : Qs} {u : Int → Int}
theorem LP.n1 (h : LP w p b1 b2 n m Q u) : p ≠ b1 := h.hq.no_cells h.hp
theorem LP.n2 (h : LP w p b1 b2 n m Q u) : p ≠ b2 := h.hu.no_cells h.hp
theorem LP.out {O : Nat → Prop} (h : LP w p b1 b2 n m Q u) (ho : Out O w w') (h0 : ¬ O p) (h1 : ¬ O b1) (h2 : ¬ O b2) : LP w' p b1 b2 n m Q u :=
  ⟨ho.blk h.hp h0, h.hq.out ho h1, h.hu.out ho h2, h.ne, h.ri, h.qf, h.wi⟩
theorem LP.below (h : LP w p b1 b2 n m Q u) (hb : Below w.heap.size w w') : LP w' p b1 b2 n m Q u := h.out (below_out Non hb) (fun e => e) (fun e => e) (fun e => e)
theorem LP.drewN (h : LP w p b1 b2 n m Q u) (j : Nat) : LP (w.drewN j) p b1 b2 n m Q u := ⟨h.hp, h.hq.same rfl, h.hu.same rfl, h.ne, h.ri, h.qf, h.wi⟩
theorem LP.drew (h : LP w p b1 b2 n m Q u) : LP w.drew p b1 b2 n m Q u := h.drewN 1
end
theorem drewN_out (O : Nat → Prop) (w : World) (j : Nat) : Out O w (w.drewN j) := ⟨rfl, rfl, rfl, Nat.le_refl _, fun _ _ _ => rfl⟩
theorem drewN_below (B : Nat) (w : World) (j : Nat) : Below B w (w.drewN j) := ⟨rfl, rfl, rfl, Nat.le_refl _, fun _ _ => rfl⟩
theorem drew_one (w : World) : w.drew = w.drewN 1 := rfl
theorem drew_zero (w : World) : w = w.drewN 0 := rfl

theorem lUsed_of (p b1 b2 n m : Nat) (Q : Qs) (u : Int → Int) (t : Int) (w : World) (h : LP w p b1 b2 n m Q u) (ht : FitsW t) :
    Calls Try.prog 16 #[.pointer (some ⟨p, 0, none⟩), .int .u32 t] w fun e w' => e = .returned (.int .u64 (u t)) ∧ ∃ j, w' = w.drewN j := by
  have c1 := h.hp.cell 1
  have hl := h.hu.look ht
  simp only [List.getElem?_cons_succ, List.getElem?_cons_zero] at c1
  clear h
  go_enter Try.func16, Try.ntmps16
  go_wp2
  go_ret
  exact ⟨rfl, 0, rfl⟩
theorem lLeft_of (p b1 b2 n m : Nat) (Q : Qs) (u : Int → Int) (t : Int) (w : World) (h : LP w p b1 b2 n m Q u) (ht : FitsW t) :
    Calls Try.prog 18 #[.pointer (some ⟨p, 0, none⟩), .int .u32 t] w fun e w' => e = .returned (.int .u64 (quoI Q t - u t)) ∧ ∃ j, w' = w.drewN j := by
  have c0 := h.hp.cell 0
  have c1 := h.hp.cell 1
  have hl := h.drew.hq.look ht
  have hl2 := h.drew.hu.look ht
  have hb := quoI_fits h.qf t
  have hw := h.wi t
  unfold FitsQ at hb
  simp only [List.getElem?_cons_succ, List.getElem?_cons_zero] at c0 c1
  clear h
  generalize quoI Q t = q at *
  generalize u t = v at *
  go_enter Try.func18, Try.ntmps18
  go_wp2
  go_region
  all_goals go_wp2
  all_goals go_ret
  all_goals exact ⟨by go_num, 1, rfl⟩
end Go.Proofs.Ytkhldjpghjmgfaa
