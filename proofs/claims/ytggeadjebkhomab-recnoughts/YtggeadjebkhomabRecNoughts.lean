/- RecNoughts holds: no block of one byte again and again is a record; for lengths of up to 5000, beyond which the statement says nothing. -/
import Derived.Test.YtggeadjebkhomabRows
import Derived.Test.YtggeadjebkhomabRcOpen
import Derived.WalkKit
import Derived.ProofKit
import Derived.OpenShut
import Derived.ShutString
import Derived.ChangeOld
import Derived.Below
namespace Go.Proofs.Ytggeadjebkhomab.recNoughts
open Go.ChangeShapes Go.WideShapes Go.ChangeAt Go.RowKit
open Go.ChangeMaps (open_string shut_string)
set_option linter.unusedVariables false

theorem own : ownKnob Try.prog.godebug = none := by kernel_rfl
theorem laidOut : laidOutB Try.prog = true := by kernel_rfl

theorem fill_next {c : Int} {N i : Nat} (h : i < N) : (u8s (List.replicate i c ++ List.replicate (N - i) 0)).set i (.int .u8 c) = u8s (List.replicate (i + 1) c ++ List.replicate (N - (i + 1)) 0) := by
  unfold u8s
  rw [← List.map_set]
  congr 1
  rw [List.set_append_right _ _ (by simp)]
  obtain ⟨d, hd⟩ : ∃ d, N - i = d + 1 := ⟨N - i - 1, by omega⟩
  have e2 : N - (i + 1) = d := by omega
  rw [hd, e2, List.replicate_succ, List.length_replicate, Nat.sub_self]
  simp [List.replicate_succ']
theorem not_same (N : Nat) (c : Int) : ¬ IsR (List.replicate N c) := by
  intro h
  have hb := h.bounds
  rw [List.length_replicate] at hb
  have h1 := h.first
  have h2 := h.last
  rw [List.length_replicate] at h2
  have e1 : (List.replicate N c).getD 0 0 = c := by simp only [List.getD, List.getElem?_replicate]; rw [if_pos (by omega)]; rfl
  have e2 : (List.replicate N c).getD (N - 1) 0 = c := by simp only [List.getD, List.getElem?_replicate]; rw [if_pos (by omega)]; rfl
  rw [e1] at h1
  rw [e2] at h2
  omega
set_option maxHeartbeats 2000000 in
theorem walk (a0 : Int) (a1 : Int) (w : World) (w0 : (Lit.int .u16 a0).wf = true) (w1 : (Lit.int .u8 a1).wf = true) :
    Calls Try.prog 3 #[.int .u16 a0, .int .u8 a1] w fun e w' => e = .returned (.bool true) ∧ Below w.heap.size w w' := by
  have hA := bounds_u16 w0
  have hC := fits8 w1
  obtain ⟨N, rfl⟩ : ∃ N : Nat, a0 = N := ⟨a0.toNat, by omega⟩
  have HC : Hid (Fits8 a1) := hC
  clear w0 w1 hC
  by_cases hl : 5000 < N
  · have hl' : (5000 : Int) < N := by omega
    clear hA
    go_enter Try.func3, Try.ntmps3
    go_wp2
    go_ret
    exact ⟨rfl, Below.refl _ _⟩
  · have hl' : (N : Int) ≤ 5000 := by omega
    have hN : N ≤ 5000 := by omega
    have hmk := run_make_row' (P := Try.prog) 23 5 (.int .u8 0) 1 Try.underlying23 Try.zero_u8 rfl .i64 .i64 N (by omega) (by omega)
    obtain ⟨q, hq⟩ : ∃ q, q = w.heap.size := ⟨_, rfl⟩
    have b0 := cmade_bytes N w
    rw [← hq] at b0
    have bw : Below w.heap.size w (w.alloc (.cells (madeCells #[.int .u8 0] N) 5)) := (Below.refl _ _).alloc (Nat.le_refl _) _
    have hwN : IntKind.i64.wrap (N : Int) = N := by rw [IntKind.wrap_i64]; omega
    clear hA hl
    go_enter Try.func3, Try.ntmps3
    go_upto_region 4 with fail
    rw [← hq]
    generalize hW : World.alloc w _ = W at b0 bw ⊢
    have H : Hid (Blk W q (u8s (List.replicate N 0)) 5 ∧ Below w.heap.size w W ∧ q = w.heap.size) := ⟨b0, bw, hq⟩
    clear b0 bw hW hmk hwN hq
    go_wp2
    go_loopw [6] (fun x wr => ∃ i : Nat, x = .int .i64 i ∧ i ≤ N ∧ Blk wr q (u8s (List.replicate i a1 ++ List.replicate (N - i) 0)) 5 ∧ Below w.heap.size w wr) (fun x _ => N - (intOf x).toNat)
    case atStart => exact ⟨0, rfl, Nat.zero_le _, by simpa using H.out.1, H.out.2.1⟩
    case round =>
      obtain ⟨i, rfl, hi, kb, bl⟩ := hrel
      rcases Nat.lt_or_ge i N with hlt | hge
      · have hi' : (i : Int) < N := by omega
        have c0 : wr.cell? ⟨q, i, none⟩ = some (.int .u8 0) := by
          rw [kb.cell]
          simp only [u8s, List.map_append, List.map_replicate]
          rw [List.getElem?_append_right (by simp)]
          simp [List.getElem?_replicate]
          omega
        have f0 := kb.frozen i
        have HZ : Hid (Blk (wr.setCell ⟨q, i, none⟩ (.int .u8 a1)) q (u8s (List.replicate (i + 1) a1 ++ List.replicate (N - (i + 1)) 0)) 5 ∧ Below w.heap.size w (wr.setCell ⟨q, i, none⟩ (.int .u8 a1))) := ⟨by rw [← fill_next hlt]; exact kb.set i _, bl.setCell (p := ⟨q, i, none⟩) (by show w.heap.size ≤ q; have := H.out.2.2; omega) _⟩
        clear kb bl
        go_wp2
        go_roundw
        case rel => exact ⟨i + 1, by simp, by omega, HZ.out⟩
        case measure => simp [intOf]; omega
      · obtain rfl : i = N := by omega
        rw [Nat.sub_self, List.replicate_zero, List.append_nil] at kb
        have hbin : BIn wr (some ⟨q, 0, none⟩) i (List.replicate i a1) := ⟨by simp, by unfold maxLen; omega, fun z hz => by rw [(List.mem_replicate.1 hz).2]; exact HC.out, .inr ⟨q, 0, rfl, fun j hj => by rw [Nat.zero_add, kb.cell]; simp [u8s, List.getD, hj]⟩⟩
        have HB : Hid (BIn wr (some ⟨q, 0, none⟩) i (List.replicate i a1) ∧ Below w.heap.size w wr) := ⟨hbin, bl⟩
        clear kb bl hbin
        go_wp2_with fail
        refine (decode_of (some ⟨q, 0, none⟩) i i (List.replicate i a1) wr HB.out.1 (fun h => by cases h) (Nat.le_refl _) (by omega)).mono ?_
        rintro e W2 ⟨A, n, C, rfl, it2, b2⟩
        have hr := not_same i a1
        have e1 : decE (List.replicate i a1) = 111 := by unfold decE; rw [if_neg hr]
        have e2 : decX (List.replicate i a1) = [] := by unfold decX; rw [if_neg hr]
        have e3 : decS (List.replicate i a1) = 0 := by unfold decS; rw [if_neg hr]
        rw [e1, e3]
        rw [e2] at it2
        obtain rfl : 0 = n := it2.1
        have hb2 := HB.out.2.trans (b2.mono HB.out.2.size)
        obtain ⟨q2, hq2⟩ : ∃ q2, q2 = W2.heap.size := ⟨_, rfl⟩
        have kb : Blk (W2.alloc (.cells #[.int .u64 0, .slice A 0 C] 27)) q2 [.int .u64 0, .slice A 0 C] 27 := Blk.new' hq2.symm rfl
        have b3 := hb2.alloc hb2.size (.cells #[.int .u64 0, .slice A 0 C] 27)
        clear e1 e2 e3 it2 b2 hb2 hr
        go_upto_region 9 with fail
        rw [← hq2]
        generalize hW3 : World.alloc W2 _ = W3 at kb b3 ⊢
        have H3 : Hid (Blk W3 q2 [.int .u64 0, .slice A 0 C] 27 ∧ Below w.heap.size w W3) := ⟨kb, b3⟩
        clear kb b3 hW3 hq2
        go_wp2_with (go_at_call 6; refine (cknown_any _).mono ?_; rintro e W4 ⟨rfl, b4⟩; have kb4 := H3.out.1.below b4 H3.out.1.lt; have c0 : W4.cell? ⟨q2, 0, none⟩ = some (.int .u64 0) := kb4.cell 0; have c1 : W4.cell? ⟨q2, 1, none⟩ = some (.slice A 0 C) := kb4.cell 1)
        go_ret
        exact ⟨rfl, H3.out.2.trans (b4.mono H3.out.2.size)⟩

set_option maxRecDepth 100000 in
theorem lifted (os : Os) (started : os.Started) (H : Type) (enc : TypeId × Value → H) :
    ReturnsInHanded {} Try.checked os 3 .any (Rows.recNoughtsSpec.pre6 enc Try.prog Try.f3 Rows.recNoughtsRow.domain false) (Rows.recNoughtsSpec.post enc Try.prog Try.f3 false true false false) := by
  refine returnsInHanded_of_change (C := Try.checked) own started (by kernel_rfl) Try.func3
    (ChangeSpec.witness6 (enc := enc) (C := Try.checked) false ⟨#[], #[.int .u16 0, .int .u8 0], []⟩ 8 (by kernel_rfl) (by kernel_rfl) (by kernel_rfl) (by kernel_rfl)) ?_
  intro W base args ds gs before hval0 hW hcnd _
  have hval : ∀ (j : Nat) t v, Try.f3.params[j]? = some t → args[j]? = some v → Value.okWide Try.prog W .any base t v := hval0
  have hW' := hW
  obtain ⟨p, q, hA0, hV, rfl, hfz, hnd⟩ := hW
  have hA : DataW.TrodAll enc Try.prog W 0 (fun _ => true) true Try.f3.params.toList args.toList ds p := hA0
  rw [Try.params3] at hA hval
  obtain ⟨v0, vs0, d0, ds0, p0, q0, hargs, rfl, rfl, h0, r0⟩ := trodAll_cons hA
  obtain ⟨v1, vs1, d1, ds1, p1, q1, rfl, rfl, rfl, h1, r1⟩ := trodAll_cons r0
  obtain ⟨rfl, rfl, rfl⟩ := trodAll_nil r1
  obtain rfl : args = #[v0, v1] := by cases args; simp_all
  obtain ⟨rfl, rfl⟩ := trodVars_none hV
  obtain ⟨a0, rfl, rfl, rfl, w0⟩ := open_int Try.underlying22 (hval 0 22 v0 rfl rfl) h0
  obtain ⟨a1, rfl, rfl, rfl, w1⟩ := open_int Try.underlying5 (hval 1 5 v1 rfl rfl) h1
  clear hA0 hval0
  refine (walk a0 a1 W w0 w1).mono fun e W' ⟨he, bel⟩ => ?_
  subst he
  exact ⟨_, rfl, _, _, _, [], _, [], hW', trodAll_mk1 (shut_bool Try.underlying4 _), (trodAll_cons_mk (shut_int Try.underlying22 w0) (trodAll_cons_mk (shut_int Try.underlying5 w1) trodAll_mk0)), rfl, bel.frame _, fun h => by cases h⟩

theorem over : Rows.recNoughtsRow.holds Try.pinned (OpenSpec.ofChange Rows.recNoughtsSpec) :=
  OpenClaim.holds_of_wide 3 Try.f3 rfl rfl rfl rfl rfl rfl rfl ⟨rfl, rfl, rfl, rfl, rfl⟩ rfl rfl rfl rfl rfl (by kernel_rfl) Try.func3 (by kernel_rfl)
    (of_decide_eq_true (by kernel_rfl)) (by unfold Func.isWrapper; first | (rw [if_pos (by decide +kernel)]; kernel_rfl) | (rw [if_neg (by decide +kernel)]; exact ⟨rfl, rfl⟩))
    (fun os started H enc _ => lifted os started H enc)

end Go.Proofs.Ytggeadjebkhomab.recNoughts
namespace Go.Proofs.Ytggeadjebkhomab
/-- The statement. -/
theorem recNoughts_holds : Rows.RecNoughtsSaid := recNoughts.over
#print axioms recNoughts_holds
end Go.Proofs.Ytggeadjebkhomab
