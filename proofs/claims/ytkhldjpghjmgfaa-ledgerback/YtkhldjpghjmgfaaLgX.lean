/- A ledger beside what a statement began with. -/
import Derived.Test.YtkhldjpghjmgfaaLgKn
import Derived.Test.YtkhldjpghjmgfaaLgOpen
namespace Go.Proofs.Ytkhldjpghjmgfaa
open Go.RowKit
set_option linter.unusedVariables false
set_option maxRecDepth 4000

/-- The program's ledger, made since W; what lay in W lies as it lay. -/
structure XP (W w : World) (p b1 b2 n m : Nat) (Q : Qs) (u : Int → Int) : Prop where
  lp : LP w p b1 b2 n m Q u
  bel : Below W.heap.size W w
  lo : W.heap.size ≤ b2
theorem XP.used {W w : World} {p b1 b2 n m : Nat} {Q : Qs} {u : Int → Int} {t : Int} (h : XP W w p b1 b2 n m Q u) (ht : FitsW t) :
    Calls Try.prog 16 #[.pointer (some ⟨p, 0, none⟩), .int .u32 t] w fun e w' => e = .returned (.int .u64 (u t)) ∧ XP W w' p b1 b2 n m Q u := by
  refine (lUsed_of p b1 b2 n m Q u t w h.lp ht).mono ?_
  rintro e w' ⟨rfl, j, rfl⟩
  exact ⟨rfl, h.lp.drewN j, h.bel.trans (drewN_below _ _ _), h.lo⟩
theorem XP.left {W w : World} {p b1 b2 n m : Nat} {Q : Qs} {u : Int → Int} {t : Int} (h : XP W w p b1 b2 n m Q u) (ht : FitsW t) :
    Calls Try.prog 18 #[.pointer (some ⟨p, 0, none⟩), .int .u32 t] w fun e w' => e = .returned (.int .u64 (quoI Q t - u t)) ∧ XP W w' p b1 b2 n m Q u := by
  refine (lLeft_of p b1 b2 n m Q u t w h.lp ht).mono ?_
  rintro e w' ⟨rfl, j, rfl⟩
  exact ⟨rfl, h.lp.drewN j, h.bel.trans (drewN_below _ _ _), h.lo⟩
theorem XP.take {W w : World} {p b1 b2 n m : Nat} {Q : Qs} {u : Int → Int} {t c : Int} {b : Bool} (h : XP W w p b1 b2 n m Q u) (ht : FitsW t) (hc : FitsQ c) (hm : m < 100000) (hb : okL Q u (false, t, c) = b) :
    Calls Try.prog 24 #[.pointer (some ⟨p, 0, none⟩), .int .u32 t, .int .u64 c] w fun e w' => e = .returned (.bool b) ∧ XP W w' p b1 b2 n (m + 1) Q (doL Q u (false, t, c)) := by
  refine (lTake_b p b1 b2 n m Q u t c b w h.lp ht hc hm hb).mono ?_
  rintro e w' ⟨rfl, h1, o1⟩
  exact ⟨rfl, h1, h.bel.trans (o1.below h.bel.size (by rintro j rfl; exact h.lo)), h.lo⟩
theorem XP.give {W w : World} {p b1 b2 n m : Nat} {Q : Qs} {u : Int → Int} {t c : Int} {b : Bool} (h : XP W w p b1 b2 n m Q u) (ht : FitsW t) (hc : FitsQ c) (hm : m < 100000) (hb : okL Q u (true, t, c) = b) :
    Calls Try.prog 23 #[.pointer (some ⟨p, 0, none⟩), .int .u32 t, .int .u64 c] w fun e w' => e = .returned (.bool b) ∧ XP W w' p b1 b2 n (m + 1) Q (doL Q u (true, t, c)) := by
  refine (lGive_b p b1 b2 n m Q u t c b w h.lp ht hc hm hb).mono ?_
  rintro e w' ⟨rfl, h1, o1⟩
  exact ⟨rfl, h1, h.bel.trans (o1.below h.bel.size (by rintro j rfl; exact h.lo)), h.lo⟩
theorem one_new {W v : World} {i q : Int} (hi : FitsW i) (hq : FitsQ q) (hB : Below W.heap.size W v) :
    Calls Try.prog 13 #[.slice (some ⟨v.heap.size, 0, none⟩) 1 1] (v.alloc (.cells #[.int .u32 i, .slice none 0 0, .int .u64 q, .int .u64 0, .slice none 0 0] 48)) fun e w' => ∃ p b1 b2, e = .returned (.pointer (some ⟨p, 0, none⟩)) ∧ XP W w' p b1 b2 1 0 [(i, q)] (fun _ => 0) := by
  have hT : TsL (v.alloc (.cells #[.int .u32 i, .slice none 0 0, .int .u64 q, .int .u64 0, .slice none 0 0] 48)) (some ⟨v.heap.size, 0, none⟩) 1 [tn1 i q] := one_ts hi hq (Blk.new' rfl rfl)
  refine (lNew_of (some ⟨v.heap.size, 0, none⟩) 1 1 [tn1 i q] _ hT (by decide)).mono ?_
  rintro e w' ⟨p, b1, b2, rfl, h2, B2, l1, l2, l3⟩
  have s1 := hB.size
  have s2 : (v.alloc (.cells #[.int .u32 i, .slice none 0 0, .int .u64 q, .int .u64 0, .slice none 0 0] 48)).heap.size = v.heap.size + 1 := by simp
  rw [s2] at l3 B2
  exact ⟨p, b1, b2, rfl, h2, (hB.alloc s1 _).trans (B2.mono (by omega)), by omega⟩
/-- One call's cells, in whatever world keeps what lay. -/
theorem op_cells {W : World} {a : Option Addr} {n : Nat} {os : List Opl} (h : OpsIn W a n os) {k : Nat} (hk : k < n) : ∃ (b off : Nat) (o : Opl), a = some ⟨b, off, none⟩ ∧ os[k]? = some o ∧
    ∀ W', Below W.heap.size W W' → W'.cell? ⟨b, off + k * 3, none⟩ = some (.bool o.1) ∧ W'.cell? ⟨b, off + k * 3 + 1, none⟩ = some (.int .u32 o.2.1) ∧ W'.cell? ⟨b, off + k * 3 + 2, none⟩ = some (.int .u64 o.2.2) := by
  obtain ⟨b, off, ha, hrow⟩ := h.2.resolve_left (by omega)
  obtain ⟨o, ho⟩ : ∃ o, os[k]? = some o := ⟨_, List.getElem?_eq_getElem (by rw [h.1]; exact hk)⟩
  refine ⟨b, off, o, ha, ho, fun W' hb => ?_⟩
  have hr := rangeAt_same (hrow k o ho) (hb.block b (rangeAt_lt (hrow k o ho)))
  exact ⟨hr 0 _ rfl, hr 1 _ rfl, hr 2 _ rfl⟩
end Go.Proofs.Ytkhldjpghjmgfaa
