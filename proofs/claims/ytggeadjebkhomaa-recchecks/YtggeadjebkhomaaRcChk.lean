/- What one call of the document's Check does. -/
import Derived.Test.YtggeadjebkhomaaRcMore
namespace Go.Proofs.Ytggeadjebkhomaa
open Go.RowKit Go.Sort
set_option linter.unusedVariables false
set_option maxRecDepth 4000

theorem dEnds_regrown {w : World} (a : Option Addr) (n c : Nat) (zs : List Int) (h : BIn w a n zs) (d : Nat) (os : Array Obj) : Calls Try.prog 22 #[.slice a n c] (grow (redrawn w d) os) fun e w'' => e = .returned (.int .i64 (endsN zs : Nat)) ∧ ∃ p : Regrown, w'' = grow (redrawn w p.d) p.os :=
  Calls.regrown_of ((dEnds_of a n c zs _ (h.below (below_regrown w d os))).mono fun e w' h => ⟨h.1, by rw [h.2]; exact Below.refl _ _⟩)
theorem dSum_regrown {w : World} (a : Option Addr) (n c : Nat) (zs : List Int) (h : BIn w a n zs) (d : Nat) (os : Array Obj) : Calls Try.prog 26 #[.slice a n c] (grow (redrawn w d) os) fun e w'' => e = .returned (.int .u32 (crI 0 zs)) ∧ ∃ p : Regrown, w'' = grow (redrawn w p.d) p.os :=
  Calls.regrown_of ((dCrcSum_of a n c zs _ (h.below (below_regrown w d os))).mono fun e w' h => ⟨h.1, by rw [h.2]; exact Below.refl _ _⟩)
set_option maxHeartbeats 2000000 in
theorem dCheck_of (x : It) (a : Option Addr) (n c : Nat) (zs : List Int) (w : World) (hf : x.Fits) (h : BIn w a n zs) :
    Calls Try.prog 20 #[.agg #[.int .u32 x.t, .int .u64 x.b, .int .u8 x.k, .int .u32 x.s, .int .u16 x.e], .slice a n c] w fun e w' => e = .returned (.bool (checkB x zs)) ∧ Below w.heap.size w w' := by
  obtain ⟨q, hq⟩ : ∃ q, q = w.heap.size := ⟨_, rfl⟩
  have kb : Blk (w.alloc (.cells #[.int .u32 x.t, .int .u64 x.b, .int .u8 x.k, .int .u32 x.s, .int .u16 x.e] 47)) q (itL x) 47 := Blk.new' hq.symm rfl
  have bw : Below w.heap.size w (w.alloc (.cells #[.int .u32 x.t, .int .u64 x.b, .int .u8 x.k, .int .u32 x.s, .int .u16 x.e] 47)) := (Below.refl _ _).alloc (Nat.le_refl _) _
  obtain ⟨B, hB⟩ : ∃ B, B = checkB x zs := ⟨_, rfl⟩
  have HB : Hid (B = checkB x zs) := hB
  rw [← hB]
  clear hB
  have ue : IntKind.i64.wrap x.e = x.e := by have := hf.2.2.2.2; unfold Fits16 at this; rw [IntKind.wrap_i64]; omega
  clear hf
  go_enter Try.func20, Try.ntmps20
  go_upto_region 1 with fail
  rw [← hq]
  generalize hW : World.alloc w _ = W at kb bw ⊢
  have H : Hid (Blk W q (itL x) 47 ∧ Below w.heap.size w W ∧ BIn W a n zs) := ⟨kb, bw, h.below bw⟩
  have c2 : W.cell? ⟨q, 2, none⟩ = some (.int .u8 x.k) := kb.cell 2
  have c3 : W.cell? ⟨q, 3, none⟩ = some (.int .u32 x.s) := kb.cell 3
  have c4 : W.cell? ⟨q, 4, none⟩ = some (.int .u16 x.e) := kb.cell 4
  obtain ⟨E, hE⟩ : ∃ E, E = endsN zs := ⟨_, rfl⟩
  obtain ⟨K, hK⟩ : ∃ K, K = crI 0 zs := ⟨_, rfl⟩
  by_cases hk : x.k = 1
  · have hkb : (x.k == 1) = true := by simp [hk]
    have cE := fun d os => dEnds_regrown (c := c) a n zs H.out.2.2 d os
    simp only [← hE] at cE
    have cK := fun d os => dSum_regrown (c := c) a n zs H.out.2.2 d os
    simp only [← hK] at cK
    have k2 := fun d os => cell_regrown c2 d os
    have k3 := fun d os => cell_regrown c3 d os
    have k4 := fun d os => cell_regrown c4 d os
    by_cases hs : x.s = K
    · have hsb : (x.s == K) = true := by simp [hs]
      have hf : B = (x.e == (E : Int)) := by
        rw [HB.out]
        unfold checkB
        rw [← hE, ← hK]
        by_cases he : x.e = (E : Int) <;> simp [hk, he, hs]
      have HBB : Hid (B = (x.e == (E : Int))) := hf
      clear HB hE hK hk hs hf kb bw hW h hq
      refine wp_region_quiet_below (by kernel_rfl) (by kernel_rfl) ?_
      iterate 7 (quiet_step (fail))
      quiet_step (exact cK _ _)
      iterate 7 (quiet_step (fail))
      quiet_step (exact cE _ _)
      iterate 3 (quiet_step (fail))
      refine wpQuiet_nil ?_
      intro _ hw'
      obtain ⟨⟨dq, osq⟩, hw''⟩ := hw'
      subst hw''
      go_wp2
      go_ret
      exact ⟨by rw [HBB.out]; rfl, H.out.2.1.trans ((below_regrown W dq osq).mono H.out.2.1.size)⟩
    · have hsb : (x.s == K) = false := by simp [hs]
      have hf : B = false := by rw [HB.out]; unfold checkB; rw [← hK]; simp [hs]
      clear HB hE hK hk hs kb bw hW h hq
      subst hf
      refine wp_region_quiet_below (by kernel_rfl) (by kernel_rfl) ?_
      iterate 7 (quiet_step (fail))
      quiet_step (exact cK _ _)
      iterate 11 (quiet_step (fail))
      refine wpQuiet_nil ?_
      intro _ hw'
      obtain ⟨⟨dq, osq⟩, hw''⟩ := hw'
      subst hw''
      go_wp2
      go_ret
      exact ⟨rfl, H.out.2.1.trans ((below_regrown W dq osq).mono H.out.2.1.size)⟩
  · have hkb : (x.k == 1) = false := by simp [hk]
    have hf : B = false := by rw [HB.out]; unfold checkB; simp [hk]
    clear HB hE hK hk kb bw hW h hq
    subst hf
    go_quiet (fail)
    go_wp2
    go_ret
    exact ⟨rfl, below_drewN H.out.2.1 _⟩
end Go.Proofs.Ytggeadjebkhomaa
