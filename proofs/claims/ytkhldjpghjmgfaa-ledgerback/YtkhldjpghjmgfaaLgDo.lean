/- What both ledgers tell, all at once. -/
import Derived.Test.YtkhldjpghjmgfaaLgB
import Derived.Test.YtkhldjpghjmgfaaLgDN
import Derived.Test.YtkhldjpghjmgfaaLgDA
namespace Go.Proofs.Ytkhldjpghjmgfaa
open Go.RowKit
set_option linter.unusedVariables false
set_option maxRecDepth 4000

section
variable {W w : World} {p b1 b2 n m r : Nat} {Q : Qs} {u v : Int → Int}
theorem Bo.used {t : Int} (h : Bo W w p b1 b2 n m r Q u v) (ht : FitsW t) :
    Calls Try.prog 16 #[.pointer (some ⟨p, 0, none⟩), .int .u32 t] w fun e w' => e = .returned (.int .u64 (u t)) ∧ Bo W w' p b1 b2 n m r Q u v := by
  refine (lUsed_of p b1 b2 n m Q u t w h.x.lp ht).mono ?_
  rintro e w' ⟨rfl, j, rfl⟩
  exact ⟨rfl, h.drewN j⟩
theorem Bo.left {t : Int} (h : Bo W w p b1 b2 n m r Q u v) (ht : FitsW t) :
    Calls Try.prog 18 #[.pointer (some ⟨p, 0, none⟩), .int .u32 t] w fun e w' => e = .returned (.int .u64 (quoI Q t - u t)) ∧ Bo W w' p b1 b2 n m r Q u v := by
  refine (lLeft_of p b1 b2 n m Q u t w h.x.lp ht).mono ?_
  rintro e w' ⟨rfl, j, rfl⟩
  exact ⟨rfl, h.drewN j⟩
theorem Bo.dused {t : Int} (h : Bo W w p b1 b2 n m r Q u v) (hl : Q.length ≤ 1000) :
    Calls Try.prog 17 #[.pointer (some ⟨r, 0, none⟩), .int .u32 t] w fun e w' => e = .returned (.int .u64 (v t)) ∧ Bo W w' p b1 b2 n m r Q u v := by
  refine (dlUsed_of W.heap.size r Q v t w h.d hl).mono ?_
  rintro e w' ⟨rfl, j, rfl⟩
  exact ⟨rfl, h.drewN j⟩
theorem Bo.dleft {t : Int} (h : Bo W w p b1 b2 n m r Q u v) (hl : Q.length ≤ 1000) :
    Calls Try.prog 19 #[.pointer (some ⟨r, 0, none⟩), .int .u32 t] w fun e w' => e = .returned (.int .u64 (quoI Q t - v t)) ∧ Bo W w' p b1 b2 n m r Q u v := by
  refine (dlLeft_of W.heap.size r Q v t w h.d hl).mono ?_
  rintro e w' ⟨rfl, j, rfl⟩
  exact ⟨rfl, h.drewN j⟩
/-- A list that All has handed out. -/
structure Got (w : World) (Q : Qs) (u : Int → Int) (v : Value) : Prop where
  own : ∃ B, w.ownsRow B 66 2 v Q.length (rowC uC (allS Q u))
theorem Got.below {w' : World} {x : Value} (h : Got w Q u x) (hb : Below w.heap.size w w') : Got w' Q u x := by
  obtain ⟨B, h⟩ := h.own
  exact ⟨⟨B, (below_out Non hb).own h (fun _ _ e => e)⟩⟩
theorem Bo.all (h : Bo W w p b1 b2 n m r Q u v) (hl : Q.length ≤ 1000) :
    Calls Try.prog 21 #[.pointer (some ⟨p, 0, none⟩)] w fun e w' => (∃ a c, e = .returned (.slice a Q.length c) ∧ Got w' Q u (.slice a Q.length c)) ∧ Bo W w' p b1 b2 n m r Q u v ∧ Below w.heap.size w w' := by
  refine (lAll_of w p b1 b2 n m Q u h.x.lp hl).mono ?_
  rintro e w' ⟨x, rfl, ho, hb⟩
  obtain ⟨a, c, rfl⟩ := own_slice ho
  exact ⟨⟨a, c, rfl, ⟨_, ho⟩⟩, h.below hb, hb⟩
theorem Bo.dall (h : Bo W w p b1 b2 n m r Q u v) (hl : Q.length ≤ 1000) :
    Calls Try.prog 22 #[.pointer (some ⟨r, 0, none⟩)] w fun e w' => (∃ a c, e = .returned (.slice a Q.length c) ∧ Got w' Q v (.slice a Q.length c)) ∧ Bo W w' p b1 b2 n m r Q u v ∧ Below w.heap.size w w' := by
  refine (dlAll_of w W.heap.size r Q v h.d hl).mono ?_
  rintro e w' ⟨x, rfl, ho, hb⟩
  obtain ⟨a, c, rfl⟩ := own_slice ho
  exact ⟨⟨a, c, rfl, ⟨_, ho⟩⟩, h.below hb, hb⟩
theorem Got.same {a b : Option Addr} {c1 c2 : Nat} (h1 : Got w Q u (.slice a Q.length c1)) (h2 : Got w Q u (.slice b Q.length c2)) (hl : Q.length ≤ 1000) :
    Calls Try.prog 20 #[.slice a Q.length c1, .slice b Q.length c2] w fun e w' => e = .returned (.bool true) ∧ Below w.heap.size w w' := by
  obtain ⟨B1, h1⟩ := h1.own
  obtain ⟨B2, h2⟩ := h2.own
  refine (sameUsed_of a b Q.length c1 c2 B1 B2 (allS Q u) w h1 h2 hl).mono ?_
  rintro e w' ⟨rfl, j, rfl⟩
  exact ⟨rfl, drewN_below _ _ _⟩
end
theorem bo_start {W V0 V1 V3 : World} {p b1 b2 n : Nat} {ts : List Tn} (B0 : Below W.heap.size W V0) (h1 : LP V1 p b1 b2 n 0 (quoS ts) (fun _ => 0)) (B1 : Below V0.heap.size V0 V1) (l1 : V0.heap.size ≤ b2)
    (h3 : LD V3 V1.heap.size V1.heap.size (quoS ts) zU) (B3 : Below V1.heap.size V1 V3) : Bo W V3 p b1 b2 n 0 V1.heap.size (quoS ts) zU zU := by
  have s0 := B0.size
  have s1 := B1.size
  obtain ⟨a, k, c, hb, hr⟩ := h3.row
  exact ⟨⟨h1.below B3, (B0.trans (B1.mono s0)).trans (B3.mono (by omega)), by omega⟩, ⟨⟨a, k, c, hb, own_base hr (fun g hg => by have := (hr.lt g hg).1; omega)⟩, by omega, h3.ri, h3.qf, h3.wi⟩⟩
end Go.Proofs.Ytkhldjpghjmgfaa
