/- What one call of New does. -/
import Derived.Test.YtofccgcddomcfaaSgP
import Derived.Test.YtofccgcddomcfaaSRight
import Derived.BigRegion
namespace Go.Proofs.Ytofccgcddomcfaa
open Go.RowKit
set_option linter.unusedVariables false
set_option maxRecDepth 4000

def fillZ (N k : Nat) : List Int := (newZ N).take k ++ List.replicate (N - k) 0
theorem fill_length {N k : Nat} (h : 2 ≤ N) (hk : k ≤ N) : (fillZ N k).length = N := by
  unfold fillZ; rw [List.length_append, List.length_take, newZ_length h, List.length_replicate]; omega
theorem newZ_at {N k : Nat} (h : k < N) (h2 : 2 ≤ N) : (newZ N)[k]? = some (if k < 2 then 4 else 1) := by
  unfold newZ
  match k, h with
  | 0, _ => rfl
  | 1, _ => rfl
  | k + 2, h =>
    rw [List.getElem?_cons_succ, List.getElem?_cons_succ, List.getElem?_replicate, if_pos (by omega), if_neg (by omega)]
theorem fill_step {N k : Nat} (h : k < N) (h2 : 2 ≤ N) : (fillZ N k).set k (if k < 2 then 4 else 1) = fillZ N (k + 1) := by
  unfold fillZ
  have hl : ((newZ N).take k).length = k := by rw [List.length_take, newZ_length h2]; omega
  rw [take_snoc (newZ_at h h2), List.set_append_right _ _ (by omega), hl, Nat.sub_self]
  obtain ⟨m, hm⟩ : ∃ m, N - k = m + 1 := ⟨N - k - 1, by omega⟩
  have hm' : N - (k + 1) = m := by omega
  rw [hm, hm', List.replicate_succ, List.set_cons_zero, List.append_assoc]; rfl
theorem fill_all (N : Nat) (h2 : 2 ≤ N) : fillZ N N = newZ N := by
  unfold fillZ
  rw [Nat.sub_self, List.replicate_zero, List.append_nil, List.take_of_length_le (by rw [newZ_length h2]; omega)]
theorem fill_none (N : Nat) : fillZ N 0 = List.replicate N 0 := by simp [fillZ]
theorem newZ_fit (N : Nat) : ∀ x ∈ newZ N, x = 4 ∨ x = 1 := by
  intro x hx
  simp only [newZ, List.mem_cons, List.mem_replicate] at hx
  omega
theorem fill_fit (N k : Nat) : ∀ x ∈ fillZ N k, Fits8 x := by
  intro x hx
  unfold fillZ at hx
  rw [List.mem_append, List.mem_replicate] at hx
  unfold Fits8
  rcases hx with hx | hx
  · have := newZ_fit N x (List.mem_of_mem_take hx); omega
  · omega
def NewGot (w : World) (s : Sh) (e : Ending) (w' : World) : Prop :=
  (¬ RightS s ∧ e = .returned (.pointer none) ∧ Below w.heap.size w w') ∨
  (RightS s ∧ ∃ p g, e = .returned (.pointer (some ⟨p, 0, none⟩)) ∧ SegP w' p g s.r (newZ s.z.toNat) ∧ w.heap.size ≤ p ∧ w.heap.size ≤ g ∧ Below w.heap.size w w')
theorem gNew_of (s : Sh) (w : World) (hz : -9223372036854775808 ≤ s.z) :
    Calls Try.prog 8 #[.agg (shL s).toArray] w fun e w' => NewGot w s e w' := by
  have hr := right_of s (w.alloc (.cells (shL s).toArray 23)) hz
  obtain ⟨z, zb, b, r⟩ := s
  obtain ⟨W, hW⟩ : ∃ W, W = w.alloc (.cells (shL ⟨z, zb, b, r⟩).toArray 23) := ⟨_, rfl⟩
  have bw : Below w.heap.size w W := by rw [hW]; exact (Below.refl _ _).alloc (Nat.le_refl _) _
  have hs : W.heap.size = w.heap.size + 1 := by rw [hW]; simp
  have hbk : Blk W w.heap.size (shL ⟨z, zb, b, r⟩) 23 := by rw [hW]; exact Blk.new' rfl rfl
  rw [← hW] at hr
  have HH : Hid (Below w.heap.size w W ∧ W.heap.size = w.heap.size + 1 ∧ Blk W w.heap.size (shL ⟨z, zb, b, r⟩) 23) := ⟨bw, hs, hbk⟩
  have HW : Hid (W = w.alloc (.cells (shL ⟨z, zb, b, r⟩).toArray 23)) := hW
  by_cases hR : RightS ⟨z, zb, b, r⟩
  · rw [decide_eq_true hR] at hr
    have HR : Hid (Calls Try.prog 25 #[.agg (shL ⟨z, zb, b, r⟩).toArray] W fun e w' => e = .returned (.bool true) ∧ Below W.heap.size W w') := hr
    have HQ : Hid (RightS ⟨z, zb, b, r⟩) := hR
    clear hr hR hbk hs bw hW hz
    simp only [shL] at *
    go_enter Try.func8, Try.ntmps8
    go_upto_region 3 with (go_at_call 25; rw [← HW.out]; refine HR.out.mono ?_; rintro e w1 ⟨rfl, hb1⟩)
    have hw1 : Blk w1 w.heap.size [.int .i64 z, .int .i64 zb, .int .i64 b, .int .i64 r] 23 := HH.out.2.2.below hb1 (by have := HH.out.2.1; omega)
    have c0 : w1.cell? ⟨w.heap.size, 0, none⟩ = some (.int .i64 z) := hw1.cell 0
    have c3 : w1.cell? ⟨w.heap.size, 3, none⟩ = some (.int .i64 r) := hw1.cell 3
    obtain ⟨N, hN⟩ : ∃ N : Nat, z = N := ⟨z.toNat, by have := HQ.out.1; simp only at this; omega⟩
    have hN1 : 6 ≤ N ∧ N ≤ 256 := by have := HQ.out.1; have := HQ.out.2.1; simp only at *; omega
    have c3' : (w1.alloc (.cells (madeCells #[.int .u8 0] N) 5)).cell? ⟨w.heap.size, 3, none⟩ = some (.int .i64 r) := (hw1.alloc _).cell 3
    clear hw1
    subst hN
    have hmk := run_make_row' (P := Try.prog) 44 5 (.int .u8 0) 1 Try.underlying44 Try.zero_u8 rfl .i64 .i64 N (by omega) (by omega)
    go_region
    have hmade := made_bytes N w1
    have hV0 : SegP ((w1.alloc (.cells (madeCells #[.int .u8 0] N) 5)).alloc (.cells #[.slice (some ⟨w1.heap.size, 0, none⟩) N N, .int .i64 r] 46)).drew (w1.heap.size + 1) w1.heap.size r (fillZ N 0) := by
      have e0 := fill_length (N := N) (k := 0) (by omega) (Nat.zero_le _)
      refine ⟨?_, ?_, by rw [e0]; omega, fill_fit N 0⟩
      · rw [e0]; exact (Blk.new' (by simp) rfl).drew
      · rw [fill_none]; exact (hmade.alloc _).drew
    have hlo : w.heap.size ≤ w1.heap.size := by have := hb1.size; have := HH.out.2.1; omega
    have hVb : Below w.heap.size w ((w1.alloc (.cells (madeCells #[.int .u8 0] N) 5)).alloc (.cells #[.slice (some ⟨w1.heap.size, 0, none⟩) N N, .int .i64 r] 46)).drew :=
      (((HH.out.1.trans (below_less hb1 (by have := HH.out.2.1; omega))).alloc hlo _).alloc (by simp; omega) _).drew
    generalize hV : World.drew _ = V at hV0 hVb ⊢
    generalize hq : w1.heap.size = q at hV0 hlo ⊢
    have HV : Hid (SegP V (q + 1) q r (fillZ N 0) ∧ w.heap.size ≤ q ∧ Below w.heap.size w V) := ⟨hV0, hlo, hVb⟩
    have c4 : V.cell? ⟨q + 1, 0, none⟩ = some (.slice (some ⟨q, 0, none⟩) N N) := by have := hV0.c0; rwa [fill_length (by omega) (Nat.zero_le _)] at this
    clear hV hq hV0 hlo hVb hmade hmk c0 c3 c3' hb1
    go_wp2
    go_loopw [20] (fun i wr => ∃ k : Nat, i = .int .i64 k ∧ k ≤ N ∧ SegP wr (q + 1) q r (fillZ N k) ∧ Below w.heap.size w wr) (fun i wr => N - (intOf i).toNat)
    case atStart => exact ⟨0, rfl, Nat.zero_le _, HV.out.1, HV.out.2.2⟩
    case round =>
      obtain ⟨k, rfl, hk, hsg, hbw⟩ := hrel
      have HI : Hid (SegP wr (q + 1) q r (fillZ N k) ∧ Below w.heap.size w wr) := ⟨hsg, hbw⟩
      have hfl := fill_length (N := N) (k := k) (by omega) hk
      have d0 := hsg.c0
      rw [hfl] at d0
      rcases Nat.lt_or_ge k N with hlt | hge
      · have d1 := hsg.at (i := k) (by rw [hfl]; exact hlt)
        have d2 := hsg.free k
        have hst := fun (b : Int) (hb : Fits8 b) => hsg.set k hb
        have hw : IntKind.i64.wrap ((k : Int) + 1) = (k : Int) + 1 := by rw [IntKind.wrap_i64]; omega
        generalize (fillZ N k).getD k 0 = X at d1
        have HT : Hid (∀ b : Int, Fits8 b → b = (if k < 2 then 4 else 1) → SegP (wr.setCell ⟨q, k, none⟩ (.int .u8 b)) (q + 1) q r (fillZ N (k + 1)) ∧ Below w.heap.size w (wr.setCell ⟨q, k, none⟩ (.int .u8 b))) := by
          intro b hb hbe
          have := hst b hb
          rw [hbe, fill_step hlt (by omega)] at this
          rw [hbe]
          exact ⟨this, hbw.setCell (by exact HV.out.2.1) _⟩
        clear hst hsg hbw hfl
        by_cases h2 : k < 2
        · have h2' : (k : Int) < 2 := by omega
          have H2 : Hid (k < 2) := h2
          clear h2
          go_wp2
          go_roundw
          case rel => exact ⟨k + 1, by simp, by omega, (HT.out 4 (by unfold Fits8; omega) (by rw [if_pos H2.out])).1, (HT.out 4 (by unfold Fits8; omega) (by rw [if_pos H2.out])).2⟩
          case measure => simp [intOf]; omega
        · have h2' : ¬ (k : Int) < 2 := by omega
          have H2 : Hid (¬ k < 2) := h2
          clear h2
          go_wp2
          go_roundw
          case rel => exact ⟨k + 1, by simp, by omega, (HT.out 1 (by unfold Fits8; omega) (by rw [if_neg H2.out])).1, (HT.out 1 (by unfold Fits8; omega) (by rw [if_neg H2.out])).2⟩
          case measure => simp [intOf]; omega
      · obtain rfl : k = N := by omega
        clear hsg hbw hfl
        go_wp2
        go_ret
        refine .inr ⟨HQ.out, q + 1, q, rfl, ?_, by have := HV.out.2.1; omega, HV.out.2.1, HI.out.2⟩
        have := HI.out.1
        rw [fill_all _ (by omega)] at this
        exact this
  · rw [decide_eq_false hR] at hr
    have HR : Hid (Calls Try.prog 25 #[.agg (shL ⟨z, zb, b, r⟩).toArray] W fun e w' => e = .returned (.bool false) ∧ Below W.heap.size W w') := hr
    have HQ : Hid (¬ RightS ⟨z, zb, b, r⟩) := hR
    clear hr hR hbk hs bw hW hz
    simp only [shL] at *
    go_enter Try.func8, Try.ntmps8
    go_wp2_with (go_at_call 25; rw [← HW.out]; refine HR.out.mono ?_; rintro e w1 ⟨rfl, hb1⟩)
    go_ret
    exact .inl ⟨HQ.out, rfl, HH.out.1.trans (below_less hb1 (by have := HH.out.2.1; omega))⟩
end Go.Proofs.Ytofccgcddomcfaa
