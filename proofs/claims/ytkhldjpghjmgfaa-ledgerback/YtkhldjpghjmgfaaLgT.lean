/- Taking, giving. -/
import Derived.Test.YtkhldjpghjmgfaaLgP
namespace Go.Proofs.Ytkhldjpghjmgfaa
open Go.RowKit
set_option linter.unusedVariables false
set_option maxRecDepth 4000

def InB (b : Nat) : Nat → Prop := fun k => k = b
theorem upd_zero {u : Int → Int} {t : Int} (h : u t = 0) : upd u t 0 = u := by
  funext k
  by_cases hk : k = t
  · subst hk; rw [upd_same, h]
  · exact upd_other _ _ hk
theorem lset_of (p b1 b2 n m : Nat) (Q : Qs) (u : Int → Int) (t c : Int) (w : World) (h : LP w p b1 b2 n m Q u) (ht : FitsW t) (hc : 0 ≤ c ∧ c ≤ quoI Q t) (hm : m < 100000) :
    Calls Try.prog 35 #[.pointer (some ⟨p, 0, none⟩), .int .u32 t, .int .u64 c] w fun e w' => e = .returned (.tuple #[]) ∧ LP w' p b1 b2 n (m + 1) Q (upd u t c) ∧ Out (InB b2) w w' := by
  have c1 := h.hp.cell 1
  simp only [List.getElem?_cons_succ, List.getElem?_cons_zero] at c1
  have hcq : FitsQ c := ⟨hc.1, by have := (quoI_fits h.qf t).2; omega⟩
  have hw : Within Q (upd u t c) := by
    intro k
    by_cases hk : k = t
    · subst hk; rw [upd_same]; exact hc
    · rw [upd_other _ _ hk]; exact h.wi k
  have fin : ∀ w', UMap w' b2 (m + 1) (upd u t c) → Out (InB b2) w w' → LP w' p b1 b2 n (m + 1) Q (upd u t c) ∧ Out (InB b2) w w' := fun w' hu ho =>
    ⟨⟨ho.blk h.hp (fun e => h.n2 e), h.hq.out ho (fun e => h.ne e), hu, h.ne, h.ri, h.qf, hw⟩, ho⟩
  by_cases hz : c = 0
  · subst hz
    obtain ⟨w', hd, hu, ho⟩ := h.hu.drop ht 0
    have H : Hid (LP w' p b1 b2 n (m + 1) Q (upd u t 0) ∧ Out (InB b2) w w') := fin w' (hu.mono (by omega)) ho
    clear fin h hw hu ho
    go_enter Try.func35, Try.ntmps35
    go_wp2
    first | go_end0 | refine bodyPost_ret (results_none rfl _ _ _) rfl ?_
    exact ⟨rfl, H.out⟩
  · obtain ⟨w', hd, hu, ho⟩ := h.hu.put hm ht hcq
    have H : Hid (LP w' p b1 b2 n (m + 1) Q (upd u t c) ∧ Out (InB b2) w w') := fin w' hu ho
    clear fin h hw hu ho
    go_enter Try.func35, Try.ntmps35
    go_wp2
    first | go_end0 | refine bodyPost_ret (results_none rfl _ _ _) rfl ?_
    exact ⟨rfl, H.out⟩
theorem lTake_of (p b1 b2 n m : Nat) (Q : Qs) (u : Int → Int) (t c : Int) (w : World) (h : LP w p b1 b2 n m Q u) (ht : FitsW t) (hc : FitsQ c) (hm : m < 100000) :
    Calls Try.prog 24 #[.pointer (some ⟨p, 0, none⟩), .int .u32 t, .int .u64 c] w fun e w' => e = .returned (.bool (okL Q u (false, t, c))) ∧ LP w' p b1 b2 n (m + 1) Q (doL Q u (false, t, c)) ∧ Out (InB b2) w w' := by
  have ho : okL Q u (false, t, c) = decide (c ≤ quoI Q t - u t) := rfl
  have hd : doL Q u (false, t, c) = if okL Q u (false, t, c) then upd u t (u t + c) else u := rfl
  rw [ho] at hd ⊢
  rw [hd]
  have c1 := lLeft_of p b1 b2 n m Q u t w h ht
  have hb := quoI_fits h.qf t
  have hw := h.wi t
  have k1 := h.hp.cell 1
  have hl : ∀ j, (Instr.lookup 53 (.map (some b2)) (.int .u32 t) false).run Try.prog (w.drewN j) = .ok (.int .u64 (u t)) (w.drewN j) := fun j => (h.drewN j).hu.look ht
  simp only [List.getElem?_cons_succ, List.getElem?_cons_zero] at k1
  unfold FitsQ at hb hc
  by_cases hx : c ≤ quoI Q t - u t
  · have c2 : ∀ j, Calls Try.prog 35 #[.pointer (some ⟨p, 0, none⟩), .int .u32 t, .int .u64 (u t + c)] (w.drewN j) fun e w' => e = .returned (.tuple #[]) ∧ LP w' p b1 b2 n (m + 1) Q (upd u t (u t + c)) ∧ Out (InB b2) w w' := fun j =>
      (lset_of p b1 b2 n m Q u t (u t + c) (w.drewN j) (h.drewN j) ht (by omega) hm).mono (fun e w' ⟨h1, h2, h3⟩ => ⟨h1, h2, (drewN_out _ w j).trans h3 (fun _ e => .inl e)⟩)
    rw [decide_eq_true hx, if_pos rfl]
    clear h ho hd
    generalize quoI Q t = q at *
    generalize u t = v at *
    go_enter Try.func24, Try.ntmps24
    go_wp2_with (first | (go_at_call 18; refine c1.mono ?_; rintro e w1 ⟨rfl, j, rfl⟩; have l0 := hl j) | (go_at_call 35; refine (c2 j).mono ?_; rintro e w2 ⟨rfl, h2⟩))
    go_ret
    exact ⟨rfl, h2⟩
  · rw [decide_eq_false hx, if_neg (by simp)]
    have H : Hid (∀ j, LP (w.drewN j) p b1 b2 n (m + 1) Q u) := fun j => ⟨h.hp, h.hq.same rfl, (h.hu.mono (by omega)).same rfl, h.ne, h.ri, h.qf, h.wi⟩
    clear h ho hd
    generalize quoI Q t = q at *
    generalize u t = v at *
    go_enter Try.func24, Try.ntmps24
    go_wp2_with (go_at_call 18; refine c1.mono ?_; rintro e w1 ⟨rfl, j, rfl⟩)
    go_ret
    exact ⟨rfl, H.out j, drewN_out _ _ _⟩
theorem lGive_of (p b1 b2 n m : Nat) (Q : Qs) (u : Int → Int) (t c : Int) (w : World) (h : LP w p b1 b2 n m Q u) (ht : FitsW t) (hc : FitsQ c) (hm : m < 100000) :
    Calls Try.prog 23 #[.pointer (some ⟨p, 0, none⟩), .int .u32 t, .int .u64 c] w fun e w' => e = .returned (.bool (okL Q u (true, t, c))) ∧ LP w' p b1 b2 n (m + 1) Q (doL Q u (true, t, c)) ∧ Out (InB b2) w w' := by
  have ho : okL Q u (true, t, c) = decide (c ≤ u t) := rfl
  have hd : doL Q u (true, t, c) = if okL Q u (true, t, c) then upd u t (u t - c) else u := rfl
  rw [ho] at hd ⊢
  rw [hd]
  have hb := quoI_fits h.qf t
  have hw := h.wi t
  have k1 := h.hp.cell 1
  have hl := h.hu.look ht
  simp only [List.getElem?_cons_succ, List.getElem?_cons_zero] at k1
  unfold FitsQ at hb hc
  by_cases hx : c ≤ u t
  · have c2 := lset_of p b1 b2 n m Q u t (u t - c) w h ht (by omega) hm
    rw [decide_eq_true hx, if_pos rfl]
    clear h ho hd
    generalize quoI Q t = q at *
    generalize u t = v at *
    go_enter Try.func23, Try.ntmps23
    go_wp2_with (go_at_call 35; refine c2.mono ?_; rintro e w2 ⟨rfl, h2⟩)
    go_ret
    exact ⟨rfl, h2⟩
  · rw [decide_eq_false hx, if_neg (by simp)]
    have H : Hid (LP w p b1 b2 n (m + 1) Q u) := ⟨h.hp, h.hq, h.hu.mono (by omega), h.ne, h.ri, h.qf, h.wi⟩
    clear h ho hd
    generalize quoI Q t = q at *
    generalize u t = v at *
    go_enter Try.func23, Try.ntmps23
    go_wp2
    go_ret
    exact ⟨rfl, H.out, Out.refl _ _⟩
end Go.Proofs.Ytkhldjpghjmgfaa
