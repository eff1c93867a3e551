/- A ledger beside a list that it handed out earlier; what is taken and given back. -/
import Derived.Test.YtkhldjpghjmgfaaLgDo
namespace Go.Proofs.Ytkhldjpghjmgfaa
open Go.RowKit
set_option linter.unusedVariables false
set_option maxRecDepth 4000

structure XA (W w : World) (p b1 b2 n m : Nat) (Q : Qs) (u u0 : Int → Int) (y : Value) : Prop where
  x : XP W w p b1 b2 n m Q u
  g : Got w Q u0 y
section
variable {W w w' : World} {p b1 b2 n m : Nat} {Q : Qs} {u u0 : Int → Int} {x : Value}
theorem XA.below (h : XA W w p b1 b2 n m Q u u0 x) (hb : Below w.heap.size w w') : XA W w' p b1 b2 n m Q u u0 x := ⟨h.x.below hb, h.g.below hb⟩
theorem Got.inB (h : Got w Q u0 x) (hu : UMap w b2 m u) (ho : Out (InB b2) w w') : Got w' Q u0 x := by
  obtain ⟨B, h⟩ := h.own
  refine ⟨⟨B, ho.own h (fun g hg => ?_)⟩⟩
  obtain ⟨cur, hc⟩ := own_at_block h hg
  exact fun e => hu.no_cells hc e
theorem XP.all (h : XP W w p b1 b2 n m Q u) (hl : Q.length ≤ 1000) :
    Calls Try.prog 21 #[.pointer (some ⟨p, 0, none⟩)] w fun e w' => ∃ a c, e = .returned (.slice a Q.length c) ∧ XA W w' p b1 b2 n m Q u u (.slice a Q.length c) := by
  refine (lAll_of w p b1 b2 n m Q u h.lp hl).mono ?_
  rintro e w' ⟨y, rfl, ho, hb⟩
  obtain ⟨a, c, rfl⟩ := own_slice ho
  exact ⟨a, c, rfl, h.below hb, ⟨_, ho⟩⟩
theorem XA.all (h : XA W w p b1 b2 n m Q u u0 x) (hl : Q.length ≤ 1000) :
    Calls Try.prog 21 #[.pointer (some ⟨p, 0, none⟩)] w fun e w' => ∃ a c, e = .returned (.slice a Q.length c) ∧ Got w' Q u (.slice a Q.length c) ∧ XA W w' p b1 b2 n m Q u u0 x := by
  refine (lAll_of w p b1 b2 n m Q u h.x.lp hl).mono ?_
  rintro e w' ⟨y, rfl, ho, hb⟩
  obtain ⟨a, c, rfl⟩ := own_slice ho
  exact ⟨a, c, rfl, ⟨_, ho⟩, h.below hb⟩
theorem XA.left {t s : Int} (h : XA W w p b1 b2 n m Q u u0 x) (ht : FitsW t) (hs : quoI Q t - u t = s) :
    Calls Try.prog 18 #[.pointer (some ⟨p, 0, none⟩), .int .u32 t] w fun e w' => e = .returned (.int .u64 s) ∧ XA W w' p b1 b2 n m Q u u0 x := by
  refine (lLeft_of p b1 b2 n m Q u t w h.x.lp ht).mono ?_
  rintro e w' ⟨rfl, j, rfl⟩
  exact ⟨by rw [hs], h.below (drewN_below _ _ _)⟩
theorem XA.take {t c : Int} (h : XA W w p b1 b2 n m Q u u0 x) (ht : FitsW t) (hc : FitsQ c) (hm : m < 100000) :
    Calls Try.prog 24 #[.pointer (some ⟨p, 0, none⟩), .int .u32 t, .int .u64 c] w fun e w' => e = .returned (.bool (okL Q u (false, t, c))) ∧ XA W w' p b1 b2 n (m + 1) Q (doL Q u (false, t, c)) u0 x := by
  refine (lTake_of p b1 b2 n m Q u t c w h.x.lp ht hc hm).mono ?_
  rintro e w' ⟨rfl, h1, o1⟩
  exact ⟨rfl, ⟨h1, h.x.bel.trans (o1.below h.x.bel.size (by rintro j rfl; exact h.x.lo)), h.x.lo⟩, h.g.inB h.x.lp.hu o1⟩
theorem XA.give {t c : Int} (h : XA W w p b1 b2 n m Q u u0 x) (ht : FitsW t) (hc : FitsQ c) (hm : m < 100000) :
    Calls Try.prog 23 #[.pointer (some ⟨p, 0, none⟩), .int .u32 t, .int .u64 c] w fun e w' => e = .returned (.bool (okL Q u (true, t, c))) ∧ XA W w' p b1 b2 n (m + 1) Q (doL Q u (true, t, c)) u0 x := by
  refine (lGive_of p b1 b2 n m Q u t c w h.x.lp ht hc hm).mono ?_
  rintro e w' ⟨rfl, h1, o1⟩
  exact ⟨rfl, ⟨h1, h.x.bel.trans (o1.below h.x.bel.size (by rintro j rfl; exact h.x.lo)), h.x.lo⟩, h.g.inB h.x.lp.hu o1⟩
theorem XA.take_yes {t c : Int} (h : XA W w p b1 b2 n m Q u u0 x) (ht : FitsW t) (hc : FitsQ c) (hm : m < 100000) (hle : c ≤ quoI Q t - u t) :
    Calls Try.prog 24 #[.pointer (some ⟨p, 0, none⟩), .int .u32 t, .int .u64 c] w fun e w' => e = .returned (.bool true) ∧ XA W w' p b1 b2 n (m + 1) Q (upd u t (u t + c)) u0 x := by
  have e1 : okL Q u (false, t, c) = true := by simp [okL, hle]
  have e2 : doL Q u (false, t, c) = upd u t (u t + c) := by unfold doL; rw [e1]; rfl
  have := h.take ht hc hm
  rw [e1, e2] at this
  exact this
theorem XA.take_no {t c : Int} (h : XA W w p b1 b2 n m Q u u0 x) (ht : FitsW t) (hc : FitsQ c) (hm : m < 100000) (hlt : quoI Q t - u t < c) :
    Calls Try.prog 24 #[.pointer (some ⟨p, 0, none⟩), .int .u32 t, .int .u64 c] w fun e w' => e = .returned (.bool false) ∧ XA W w' p b1 b2 n (m + 1) Q u u0 x := by
  have e1 : okL Q u (false, t, c) = false := by
    have : ¬ (c ≤ quoI Q t - u t) := by omega
    simp [okL, this]
  have e2 : doL Q u (false, t, c) = u := by unfold doL; rw [e1]; rfl
  have := h.take ht hc hm
  rw [e1, e2] at this
  exact this
theorem XA.give_back {t c : Int} (h : XA W w p b1 b2 n m Q (upd u t (u t + c)) u0 x) (ht : FitsW t) (hc : FitsQ c) (hm : m < 100000) (h0 : 0 ≤ u t) :
    Calls Try.prog 23 #[.pointer (some ⟨p, 0, none⟩), .int .u32 t, .int .u64 c] w fun e w' => e = .returned (.bool true) ∧ XA W w' p b1 b2 n (m + 1) Q u u0 x := by
  have e0 : upd u t (u t + c) t = u t + c := upd_same _ _ _
  have e1 : okL Q (upd u t (u t + c)) (true, t, c) = true := by
    have : c ≤ u t + c := by omega
    simp [okL, e0, this]
  have e2 : doL Q (upd u t (u t + c)) (true, t, c) = u := by
    unfold doL
    rw [e1]
    show upd (upd u t (u t + c)) t (upd u t (u t + c) t - c) = u
    rw [e0]
    funext k
    by_cases hk : k = t
    · subst hk; rw [upd_same]; omega
    · rw [upd_other _ _ hk, upd_other _ _ hk]
  have := h.give ht hc hm
  rw [e1, e2] at this
  exact this
end
end Go.Proofs.Ytkhldjpghjmgfaa
