/- A ledger, another one beside it, and the document's. -/
import Derived.Test.YtkhldjpghjmgfaaLgB
import Derived.Test.YtkhldjpghjmgfaaLgDN
import Derived.Test.YtkhldjpghjmgfaaLgTe
namespace Go.Proofs.Ytkhldjpghjmgfaa
open Go.RowKit
set_option linter.unusedVariables false
set_option maxRecDepth 4000

structure Tr (W w : World) (p b1 b2 n m p' b1' b2' m' r : Nat) (Q : Qs) (u v z : Int → Int) : Prop where
  bo : Bo W w p b1 b2 n m r Q u z
  al : LP w p' b1' b2' n m' Q v
  lo : W.heap.size ≤ b2'
  n1 : b2 ≠ b1'
  n2 : b2 ≠ b2'
  n3 : b2' ≠ b1
section
variable {W w w' : World} {p b1 b2 n m p' b1' b2' m' r : Nat} {Q : Qs} {u v z : Int → Int}
theorem LP.apart {q c1 c2 k l : Nat} {Q' : Qs} {u' : Int → Int} (h : LP w q c1 c2 k l Q' u') (hx : LP w p b1 b2 n m Q u) (h1 : b2 ≠ c1) (h2 : b2 ≠ c2) (ho : Out (InB b2) w w') : LP w' q c1 c2 k l Q' u' :=
  h.out ho (fun e => hx.hu.no_cells h.hp e) (fun e => h1 e.symm) (fun e => h2 e.symm)
theorem Tr.bel (h : Tr W w p b1 b2 n m p' b1' b2' m' r Q u v z) : Below W.heap.size W w := h.bo.x.bel
theorem Tr.below (h : Tr W w p b1 b2 n m p' b1' b2' m' r Q u v z) (hb : Below w.heap.size w w') : Tr W w' p b1 b2 n m p' b1' b2' m' r Q u v z := ⟨h.bo.below hb, h.al.below hb, h.lo, h.n1, h.n2, h.n3⟩
theorem Tr.take {t c : Int} {b : Bool} (h : Tr W w p b1 b2 n m p' b1' b2' m' r Q u v z) (ht : FitsW t) (hc : FitsQ c) (hm : m < 100000) (hb : okL Q u (false, t, c) = b) :
    Calls Try.prog 24 #[.pointer (some ⟨p, 0, none⟩), .int .u32 t, .int .u64 c] w fun e w' => e = .returned (.bool b) ∧ Tr W w' p b1 b2 n (m + 1) p' b1' b2' m' r Q (doL Q u (false, t, c)) v z ∧ ∀ g L t, Blk w g L t → Blk w' g L t := by
  subst hb
  refine (h.bo.take ht hc hm).mono ?_
  rintro e w' ⟨rfl, k1, o1⟩
  exact ⟨rfl, ⟨k1, h.al.apart h.bo.x.lp h.n1 h.n2 o1, h.lo, h.n1, h.n2, h.n3⟩, fun g L t hb => Blk.inB (m := 0) hb h.bo.x.lp.hu o1⟩
theorem Tr.give {t c : Int} {b : Bool} (h : Tr W w p b1 b2 n m p' b1' b2' m' r Q u v z) (ht : FitsW t) (hc : FitsQ c) (hm : m < 100000) (hb : okL Q u (true, t, c) = b) :
    Calls Try.prog 23 #[.pointer (some ⟨p, 0, none⟩), .int .u32 t, .int .u64 c] w fun e w' => e = .returned (.bool b) ∧ Tr W w' p b1 b2 n (m + 1) p' b1' b2' m' r Q (doL Q u (true, t, c)) v z ∧ ∀ g L t, Blk w g L t → Blk w' g L t := by
  subst hb
  refine (h.bo.give ht hc hm).mono ?_
  rintro e w' ⟨rfl, k1, o1⟩
  exact ⟨rfl, ⟨k1, h.al.apart h.bo.x.lp h.n1 h.n2 o1, h.lo, h.n1, h.n2, h.n3⟩, fun g L t hb => Blk.inB (m := 0) hb h.bo.x.lp.hu o1⟩
theorem Tr.other (h : Tr W w p b1 b2 n m p' b1' b2' m' r Q u v z) {v2 : Int → Int} {m2 : Nat} (k : LP w' p' b1' b2' n m2 Q v2) (ho : Out (InB b2') w w') : Tr W w' p b1 b2 n m p' b1' b2' m2 r Q u v2 z :=
  ⟨⟨⟨h.bo.x.lp.apart h.al h.n3 (fun e => h.n2 e.symm) ho, h.bel.trans (ho.below h.bel.size (by rintro j rfl; exact h.lo)), h.bo.x.lo⟩, h.bo.d.prog h.al ho⟩, k, h.lo, h.n1, h.n2, h.n3⟩
theorem Tr.take2 {t c : Int} {b : Bool} (h : Tr W w p b1 b2 n m p' b1' b2' m' r Q u v z) (ht : FitsW t) (hc : FitsQ c) (hm : m' < 100000) (hb : okL Q v (false, t, c) = b) :
    Calls Try.prog 24 #[.pointer (some ⟨p', 0, none⟩), .int .u32 t, .int .u64 c] w fun e w' => e = .returned (.bool b) ∧ Tr W w' p b1 b2 n m p' b1' b2' (m' + 1) r Q u (doL Q v (false, t, c)) z := by
  refine (lTake_b p' b1' b2' n m' Q v t c b w h.al ht hc hm hb).mono ?_
  rintro e w' ⟨rfl, k1, o1⟩
  exact ⟨rfl, h.other k1 o1⟩
theorem Tr.give2 {t c : Int} {b : Bool} (h : Tr W w p b1 b2 n m p' b1' b2' m' r Q u v z) (ht : FitsW t) (hc : FitsQ c) (hm : m' < 100000) (hb : okL Q v (true, t, c) = b) :
    Calls Try.prog 23 #[.pointer (some ⟨p', 0, none⟩), .int .u32 t, .int .u64 c] w fun e w' => e = .returned (.bool b) ∧ Tr W w' p b1 b2 n m p' b1' b2' (m' + 1) r Q u (doL Q v (true, t, c)) z := by
  refine (lGive_b p' b1' b2' n m' Q v t c b w h.al ht hc hm hb).mono ?_
  rintro e w' ⟨rfl, k1, o1⟩
  exact ⟨rfl, h.other k1 o1⟩
theorem Tr.used {t : Int} (h : Tr W w p b1 b2 n m p' b1' b2' m' r Q u v z) (ht : FitsW t) :
    Calls Try.prog 16 #[.pointer (some ⟨p, 0, none⟩), .int .u32 t] w fun e w' => e = .returned (.int .u64 (u t)) ∧ Tr W w' p b1 b2 n m p' b1' b2' m' r Q u v z := by
  refine (lUsed_of p b1 b2 n m Q u t w h.bo.x.lp ht).mono ?_
  rintro e w' ⟨rfl, j, rfl⟩
  exact ⟨rfl, h.below (drewN_below _ _ _)⟩
theorem Tr.used2 {t s : Int} (h : Tr W w p b1 b2 n m p' b1' b2' m' r Q u v z) (ht : FitsW t) (hs : v t = s) :
    Calls Try.prog 16 #[.pointer (some ⟨p', 0, none⟩), .int .u32 t] w fun e w' => e = .returned (.int .u64 s) ∧ Tr W w' p b1 b2 n m p' b1' b2' m' r Q u v z := by
  subst hs
  refine (lUsed_of p' b1' b2' n m' Q v t w h.al ht).mono ?_
  rintro e w' ⟨rfl, j, rfl⟩
  exact ⟨rfl, h.below (drewN_below _ _ _)⟩
theorem Tr.left {t : Int} (h : Tr W w p b1 b2 n m p' b1' b2' m' r Q u v z) (ht : FitsW t) :
    Calls Try.prog 18 #[.pointer (some ⟨p, 0, none⟩), .int .u32 t] w fun e w' => e = .returned (.int .u64 (quoI Q t - u t)) ∧ Tr W w' p b1 b2 n m p' b1' b2' m' r Q u v z := by
  refine (lLeft_of p b1 b2 n m Q u t w h.bo.x.lp ht).mono ?_
  rintro e w' ⟨rfl, j, rfl⟩
  exact ⟨rfl, h.below (drewN_below _ _ _)⟩
theorem Tr.left2 {t s : Int} (h : Tr W w p b1 b2 n m p' b1' b2' m' r Q u v z) (ht : FitsW t) (hs : v t = s) :
    Calls Try.prog 18 #[.pointer (some ⟨p', 0, none⟩), .int .u32 t] w fun e w' => e = .returned (.int .u64 (quoI Q t - s)) ∧ Tr W w' p b1 b2 n m p' b1' b2' m' r Q u v z := by
  subst hs
  refine (lLeft_of p' b1' b2' n m' Q v t w h.al ht).mono ?_
  rintro e w' ⟨rfl, j, rfl⟩
  exact ⟨rfl, h.below (drewN_below _ _ _)⟩
theorem Tr.does {o : Opl} (h : Tr W w p b1 b2 n m p' b1' b2' m' r Q u v z) (ho : OpF o) (hm : m < 100000) (hl : Q.length ≤ 1000) :
    Calls Try.prog 15 #[.pointer (some ⟨p, 0, none⟩), .pointer (some ⟨r, 0, none⟩), .agg (opC o).toArray] w fun e w' => (∃ b, e = .returned (.bool b)) ∧ Tr W w' p b1 b2 n (m + 1) p' b1' b2' m' r Q (doL Q u o) v (doL Q z o) := by
  refine (ldoes_of o w h.bo ho hm hl).mono ?_
  rintro e w' ⟨rfl, k1, X, o1, o2⟩
  exact ⟨⟨_, rfl⟩, k1, (h.al.apart h.bo.x.lp h.n1 h.n2 o1).doc o2, h.lo, h.n1, h.n2, h.n3⟩
end
/-- The three at the start. -/
theorem tr_start {W V0 V1 V2 V3 : World} {p b1 b2 n p' b1' b2' : Nat} {ts : List Tn} (B0 : Below W.heap.size W V0) (h1 : LP V1 p b1 b2 n 0 (quoS ts) (fun _ => 0)) (B1 : Below V0.heap.size V0 V1) (l1 : V0.heap.size ≤ b2)
    (h2 : LP V2 p' b1' b2' n 0 (quoS ts) (fun _ => 0)) (B2 : Below V1.heap.size V1 V2) (l2 : V1.heap.size ≤ b1') (l3 : V1.heap.size ≤ b2') (h3 : LD V3 V2.heap.size V2.heap.size (quoS ts) zU) (B3 : Below V2.heap.size V2 V3) : Tr W V3 p b1 b2 n 0 p' b1' b2' 0 V2.heap.size (quoS ts) (fun _ => 0) (fun _ => 0) zU := by
  have s0 := B0.size
  have s1 := B1.size
  have s2 := B2.size
  have q1 := h1.hq.lt
  have q2 := h1.hu.lt
  obtain ⟨a, k, c, hb, hr⟩ := h3.row
  exact ⟨⟨⟨(h1.below B2).below B3, ((B0.trans (B1.mono s0)).trans (B2.mono (by omega))).trans (B3.mono (by omega)), by omega⟩, ⟨⟨a, k, c, hb, own_base hr (fun g hg => by have := (hr.lt g hg).1; omega)⟩, by omega, h3.ri, h3.qf, h3.wi⟩⟩, h2.below B3, by omega, by omega, by omega, by omega⟩
/-- A tenant's call looks at what that tenant has, and nothing else. -/
theorem ok_one {Q : Qs} {u v : Int → Int} {o : Opl} (h : u o.2.1 = v o.2.1) : okL Q u o = okL Q v o := by unfold okL; rw [h]
theorem do_one {Q : Qs} {u v : Int → Int} {o : Opl} (h : u o.2.1 = v o.2.1) : doL Q u o o.2.1 = doL Q v o o.2.1 := by
  unfold doL
  rw [ok_one h]
  split
  · rw [upd_same, upd_same, h]
  · exact h
end Go.Proofs.Ytkhldjpghjmgfaa
