/- What one call of ckpt's check does. -/
import Derived.Test.YteokhkoaieibmaaCkSmall
import Derived.BigQuiet
import Derived.Deep.RegionHeld3
import Derived.Lib.QuietBelow
namespace Go.Proofs.Yteokhkoaieibmaa
open Go.RowKit
set_option linter.unusedVariables false
set_option maxRecDepth 4000

def CheckE (w : World) (s : Sh) (ps : List Pl) (e : Ending) (w' : World) : Prop :=
  Below w.heap.size w w' ∧ ((¬ GoodK s ps ∧ e = diedE noBk) ∨ (GoodK s ps ∧ e = .returned (.tuple #[])))
/-- The first i places are right. -/
def Upto (s : Sh) (ps : List Pl) (i : Nat) : Prop := (∀ k p q, k + 1 < i → ps[k]? = some p → ps[k + 1]? = some q → ltP p.1 q.1 = true) ∧ ∀ k p, k < i → ps[k]? = some p → InSh s p
theorem Upto.next {s : Sh} {ps : List Pl} {i : Nat} {p : Pl} (h : Upto s ps i) (hp : ps[i]? = some p) (h1 : InSh s p) (h2 : ∀ o, 0 < i → ps[i - 1]? = some o → ltP o.1 p.1 = true) : Upto s ps (i + 1) := by
  refine ⟨fun k x y hk hx hy => ?_, fun k x hk hx => ?_⟩
  · rcases Nat.lt_or_ge (k + 1) i with h' | h'
    · exact h.1 k x y h' hx hy
    · obtain rfl : i = k + 1 := by omega
      rw [hp] at hy; cases hy
      exact h2 x (by omega) (by simpa using hx)
  · rcases Nat.lt_or_ge k i with h' | h'
    · exact h.2 k x h' hx
    · obtain rfl : k = i := by omega
      rw [hp] at hx; cases hx
      exact h1
theorem Upto.all {s : Sh} {ps : List Pl} (hr : RightS s) (h : Upto s ps ps.length) : GoodK s ps := by
  refine ⟨hr, fun i p q hp hq => h.1 i p q (List.getElem?_eq_some_iff.1 hq).1 hp hq, fun p hp => ?_⟩
  obtain ⟨k, hk⟩ := List.getElem?_of_mem hp
  exact h.2 k p (List.getElem?_eq_some_iff.1 hk).1 hk
theorem wpQuiet_eq {P : Program} {ops : Array Oper} {C : World → Prop} {Q : Act → Prop} {o : Oper} {rest : List Oper} {a : Act} : wpQuiet P ops C Q (o :: rest) a = if Region.wanted o (yielded ops a.tmps) = true then o.quiet P a C (wpQuiet P ops C Q rest) else wpQuiet P ops C Q rest (a.put o.dst undef) := rfl
set_option maxHeartbeats 4000000 in
theorem kcheck_of (s : Sh) (A : Option Addr) (n C : Nat) (ps : List Pl) (w : World) (hz : -9223372036854775808 ≤ s.z) (hk : KIn w A n ps) :
    Calls Try.prog 35 #[.agg (shL s).toArray, .slice A n C] w (CheckE w s ps) := by
  obtain ⟨q, hq⟩ : ∃ q, q = w.heap.size := ⟨_, rfl⟩
  have H : Hid (KIn w A n ps ∧ q = w.heap.size) := ⟨hk, hq⟩
  have hm : n ≤ 9223372036854775807 := by have := hk.2.1; unfold maxLen at this; omega
  have hb : Blk (w.alloc (.cells #[.int .i64 s.z, .int .i64 s.zb, .int .i64 s.b, .int .i64 s.r] 23)) q (shL s) 23 := Blk.new' hq.symm rfl
  have hbel : Below w.heap.size w (w.alloc (.cells #[.int .i64 s.z, .int .i64 s.zb, .int .i64 s.b, .int .i64 s.r] 23)) := (Below.refl _ _).alloc (Nat.le_refl _) _
  simp only [shL]
  go_enter Try.func35, Try.ntmps35
  go_upto_region 1 with fail
  rw [← hq]
  generalize hW1 : World.alloc _ _ = W1 at *
  have HR : Hid (Calls Try.prog 59 #[.agg #[.int .i64 s.z, .int .i64 s.zb, .int .i64 s.b, .int .i64 s.r]] W1 fun e w' => e = .returned (.bool (decide (RightS s))) ∧ Below W1.heap.size W1 w') := right_of s W1 hz
  have e0 : W1.cell? ⟨q, 0, none⟩ = some (.int .i64 s.z) := hb.cell 0
  have e1 : W1.cell? ⟨q, 1, none⟩ = some (.int .i64 s.zb) := hb.cell 1
  have e2 : W1.cell? ⟨q, 2, none⟩ = some (.int .i64 s.b) := hb.cell 2
  have e3 : W1.cell? ⟨q, 3, none⟩ = some (.int .i64 s.r) := hb.cell 3
  have HB : Hid (Below w.heap.size w W1 ∧ Blk W1 q (shL s) 23) := ⟨hbel, hb⟩
  clear hW1 hb hbel hq hk
  by_cases hr : RightS s
  · have HS : Hid (RightS s) := hr
    rw [decide_eq_true hr] at HR
    clear hr
    go_wp2_with (go_at_call 59; refine HR.out.mono ?_; rintro e w1 ⟨rfl, b1⟩)
    have HB1 : Hid (Below w.heap.size w w1 ∧ Blk w1 q (shL s) 23) := ⟨HB.out.1.trans (b1.mono HB.out.1.size), HB.out.2.below b1 HB.out.2.lt⟩
    clear b1 e0 e1 e2 e3
    go_loopw [12] (fun x wr => ∃ i : Nat, x = .int .i64 i ∧ i ≤ n ∧ Below w.heap.size w wr ∧ Blk wr q (shL s) 23 ∧ Upto s ps i) (fun x _ => n - (intOf x).toNat)
    case atStart => exact ⟨0, rfl, Nat.zero_le _, HB1.out.1, HB1.out.2, ⟨fun k p q h => by omega, fun k p h => by omega⟩⟩
    case round =>
      obtain ⟨i, rfl, hi, bl, hsh, hup⟩ := hrel
      rcases Nat.lt_or_ge i n with hlt | hge
      · obtain ⟨x, hx⟩ : ∃ x, ps[i]? = some x := ⟨ps[i]'(by have := H.out.1.1; omega), by simp⟩
        obtain ⟨b', off, hA, hc⟩ := (H.out.1.below bl).2.2.2.resolve_left (by omega)
        subst hA
        have d0 : wr.cell? ⟨b', off + i * 4, none⟩ = some (.int .u32 x.1.1) := hc i x hx 0 _ rfl
        have d1 : wr.cell? ⟨b', off + i * 4 + 1, none⟩ = some (.int .u64 x.1.2) := hc i x hx 1 _ rfl
        have d2 : wr.cell? ⟨b', off + i * 4 + 2, none⟩ = some (.int .i64 x.2.1) := hc i x hx 2 _ rfl
        have d3 : wr.cell? ⟨b', off + i * 4 + 3, none⟩ = some (.int .i64 x.2.2) := hc i x hx 3 _ rfl
        obtain ⟨qi, hqi⟩ : ∃ qi, qi = wr.heap.size := ⟨_, rfl⟩
        have kb : Blk (wr.alloc (.cells #[.int .u32 x.1.1, .int .u64 x.1.2, .int .i64 x.2.1, .int .i64 x.2.2] 83)) qi (plL x) 83 := Blk.new' hqi.symm rfl
        have hsh7 := hsh.alloc (.cells #[.int .u32 x.1.1, .int .u64 x.1.2, .int .i64 x.2.1, .int .i64 x.2.2] 83)
        have bl7 := bl.alloc bl.size (.cells #[.int .u32 x.1.1, .int .u64 x.1.2, .int .i64 x.2.1, .int .i64 x.2.2] 83)
        have bl7' := bl7
        have hi' : (i : Int) < n := by omega
        have hwi : IntKind.i64.wrap ((i : Int) + 1) = (i : Int) + 1 := by rw [IntKind.wrap_i64]; omega
        have hwm : IntKind.i64.wrap ((i : Int) - 1) = (i : Int) - 1 := by rw [IntKind.wrap_i64]; omega
        have HX : Hid (ps[i]? = some x ∧ Upto s ps i) := ⟨hx, hup⟩
        clear hup hx
        go_upto_region 6 with fail
        rw [← hqi]
        clear hqi d0 d1 d2 d3
        have hA7 := (H.out.1.below bl7').2.2.2.resolve_left (by omega)
        generalize hW7 : World.alloc wr _ = W7 at kb hsh7 bl7 bl7' hA7 ⊢
        clear hW7
        have k0 : W7.cell? ⟨qi, 0, none⟩ = some (.int .u32 x.1.1) := kb.cell 0
        have k1 : W7.cell? ⟨qi, 1, none⟩ = some (.int .u64 x.1.2) := kb.cell 1
        have k2 : W7.cell? ⟨qi, 2, none⟩ = some (.int .i64 x.2.1) := kb.cell 2
        have k3 : W7.cell? ⟨qi, 3, none⟩ = some (.int .i64 x.2.2) := kb.cell 3
        have g0 : W7.cell? ⟨q, 0, none⟩ = some (.int .i64 s.z) := hsh7.cell 0
        have g1 : W7.cell? ⟨q, 1, none⟩ = some (.int .i64 s.zb) := hsh7.cell 1
        have g2 : W7.cell? ⟨q, 2, none⟩ = some (.int .i64 s.b) := hsh7.cell 2
        have g3 : W7.cell? ⟨q, 3, none⟩ = some (.int .i64 s.r) := hsh7.cell 3
        have hIc : ∀ X : World, Calls Try.prog 63 #[.agg #[.int .i64 s.z, .int .i64 s.zb, .int .i64 s.b, .int .i64 s.r], .agg #[.int .i64 x.2.1, .int .i64 x.2.2]] X fun e w' => e = .returned (.bool (decide (2 ≤ x.2.1 ∧ x.2.1 < s.z ∧ 0 ≤ x.2.2 ∧ x.2.2 < s.zb))) ∧ Below X.heap.size X w' := kinLog_of s x.2.1 x.2.2
        have H7 : Hid (Below w.heap.size w W7 ∧ Blk W7 q (shL s) 23 ∧ Blk W7 qi (plL x) 83) := ⟨bl7, hsh7, kb⟩
        have r0 := fun d os => cell_regrown k0 d os
        have r1 := fun d os => cell_regrown k1 d os
        have r2 := fun d os => cell_regrown k2 d os
        have r3 := fun d os => cell_regrown k3 d os
        have t0 := fun d os => cell_regrown g0 d os
        have t1 := fun d os => cell_regrown g1 d os
        have t2 := fun d os => cell_regrown g2 d os
        have t3 := fun d os => cell_regrown g3 d os
        clear kb hsh7 bl7 bl7' hA7 bl hsh hc k0 k1 k2 k3 g0 g1 g2 g3
        by_cases hin : InSh s x
        · have hin' : 2 ≤ x.2.1 ∧ x.2.1 < s.z ∧ 0 ≤ x.2.2 ∧ x.2.2 < s.zb := hin
          rw [decide_eq_true hin'] at hIc
          have cI := fun d os => Calls.regrown_of (hIc (Go.Sort.grow (redrawn W7 d) os))
          have HIN : Hid (InSh s x) := hin
          clear hin hin' hIc
          rcases Nat.eq_zero_or_pos i with h0 | h0
          · have z1 : decide ((0 : Int) < (i : Int)) = false := by simp; omega
            have z2 : decide (0 < i) = false := by simp; omega
            have HZ : Hid (i = 0) := h0
            clear h0
            refine wp_region_quiet_below (by kernel_rfl) (by kernel_rfl) ?_
            iterate 3 (quiet_step (fail))
            quiet_step (exact cI _ _)
            iterate 5 (quiet_step (fail))
            iterate 8 (rw [wpQuiet_eq]; go_simp)
            iterate 2 (quiet_step (fail))
            refine wpQuiet_nil ?_
            rintro ⟨dq, osq⟩
            dsimp only
            have bR := H7.out.1.trans ((below_regrown W7 dq osq).mono H7.out.1.size)
            have sR := H7.out.2.1.below (below_regrown W7 dq osq) H7.out.2.1.lt
            have HN : Hid (Below w.heap.size w (Go.Sort.grow (redrawn W7 dq) osq) ∧ Blk (Go.Sort.grow (redrawn W7 dq) osq) q (shL s) 23 ∧ Upto s ps (i + 1)) := ⟨bR, sR, HX.out.2.next HX.out.1 HIN.out (fun _ h => absurd HZ.out (by omega))⟩
            clear bR sR r0 r1 r2 r3 t0 t1 t2 t3 cI
            generalize Go.Sort.grow _ _ = V at HN ⊢
            go_wp2
            go_roundw
            case rel => exact ⟨i + 1, by simp, by omega, HN.out.1, HN.out.2.1, HN.out.2.2⟩
            case measure => simp [intOf]; omega
          · obtain ⟨j, hj⟩ : ∃ j, i = j + 1 := ⟨i - 1, by omega⟩
            have hpos : (0 : Int) < i := by omega
            have hwj : IntKind.i64.wrap ((i : Int) - 1) = (j : Int) := by rw [IntKind.wrap_i64]; omega
            have hjn : (j : Int) < n := by omega
            obtain ⟨o, ho⟩ : ∃ o, ps[j]? = some o := ⟨ps[j]'(by have := H.out.1.1; omega), by simp⟩
            have HO : Hid (ps[j]? = some o ∧ i = j + 1) := ⟨ho, hj⟩
            obtain ⟨b2, off2, hA2, hc2⟩ := (H.out.1.below H7.out.1).2.2.2.resolve_left (by omega)
            cases hA2
            have p0 := fun d os => cell_regrown (show W7.cell? ⟨b', off + j * 4, none⟩ = some (.int .u32 o.1.1) from hc2 j o ho 0 _ rfl) d os
            have p1 := fun d os => cell_regrown (show W7.cell? ⟨b', off + j * 4 + 1, none⟩ = some (.int .u64 o.1.2) from hc2 j o ho 1 _ rfl) d os
            have p2 := fun d os => cell_regrown (show W7.cell? ⟨b', off + j * 4 + 2, none⟩ = some (.int .i64 o.2.1) from hc2 j o ho 2 _ rfl) d os
            have p3 := fun d os => cell_regrown (show W7.cell? ⟨b', off + j * 4 + 3, none⟩ = some (.int .i64 o.2.2) from hc2 j o ho 3 _ rfl) d os
            clear hj ho hwm hc2
            have hRc : ∀ X : World, Calls Try.prog 64 #[.agg #[.int .u32 o.1.1, .int .u64 o.1.2, .int .i64 o.2.1, .int .i64 o.2.2], .agg #[.int .u32 x.1.1, .int .u64 x.1.2, .int .i64 x.2.1, .int .i64 x.2.2]] X fun e w' => e = .returned (.bool (ltP o.1 x.1)) ∧ Below X.heap.size X w' := krises_of o x
            by_cases hlr : ltP o.1 x.1 = true
            · have HL : Hid (ltP o.1 x.1 = true) := hlr
              rw [hlr] at hRc
              have cR := fun d os => Calls.regrown_of (hRc (Go.Sort.grow (redrawn W7 d) os))
              clear hlr hRc
              refine wp_region_quiet_below (by kernel_rfl) (by kernel_rfl) ?_
              iterate 3 (quiet_step (fail))
              quiet_step (exact cI _ _)
              iterate 11 (quiet_step (fail))
              quiet_step (exact cR _ _)
              iterate 3 (quiet_step (fail))
              refine wpQuiet_nil ?_
              intro _ hw'
              obtain ⟨⟨dq, osq⟩, hw''⟩ := hw'
              subst hw''
              have bR := H7.out.1.trans ((below_regrown W7 dq osq).mono H7.out.1.size)
              have sR := H7.out.2.1.below (below_regrown W7 dq osq) H7.out.2.1.lt
              have HN : Hid (Below w.heap.size w (Go.Sort.grow (redrawn W7 dq) osq) ∧ Blk (Go.Sort.grow (redrawn W7 dq) osq) q (shL s) 23 ∧ Upto s ps (i + 1)) := ⟨bR, sR, HX.out.2.next HX.out.1 HIN.out (fun o' _ h => by rw [HO.out.2, Nat.add_sub_cancel, HO.out.1] at h; cases h; exact HL.out)⟩
              clear bR sR r0 r1 r2 r3 t0 t1 t2 t3 cI cR p0 p1 p2 p3
              generalize Go.Sort.grow _ _ = V at HN ⊢
              go_wp2
              go_roundw
              case rel => exact ⟨i + 1, by simp, by omega, HN.out.1, HN.out.2.1, HN.out.2.2⟩
              case measure => simp [intOf]; omega
            · have hlr' : ltP o.1 x.1 = false := by simpa using hlr
              rw [hlr'] at hRc
              have cR := fun d os => Calls.regrown_of (hRc (Go.Sort.grow (redrawn W7 d) os))
              have HL : Hid (ltP o.1 x.1 = false) := hlr'
              clear hlr hlr' hRc
              refine wp_region_quiet_below (by kernel_rfl) (by kernel_rfl) ?_
              iterate 3 (quiet_step (fail))
              quiet_step (exact cI _ _)
              iterate 11 (quiet_step (fail))
              quiet_step (exact cR _ _)
              iterate 3 (quiet_step (fail))
              refine wpQuiet_nil ?_
              intro _ hw'
              obtain ⟨⟨dq, osq⟩, hw''⟩ := hw'
              subst hw''
              have bR := H7.out.1.trans ((below_regrown W7 dq osq).mono H7.out.1.size)
              have sR := H7.out.2.1.below (below_regrown W7 dq osq) H7.out.2.1.lt
              go_wp2
              refine ⟨rfl, bR, .inl ⟨fun h => ?_, rfl⟩⟩
              have := h.2.1 j o x HO.out.1 (by rw [← HO.out.2]; exact HX.out.1)
              rw [HL.out] at this
              cases this
        · have hin' : ¬ (2 ≤ x.2.1 ∧ x.2.1 < s.z ∧ 0 ≤ x.2.2 ∧ x.2.2 < s.zb) := hin
          rw [decide_eq_false hin'] at hIc
          have cI := fun d os => Calls.regrown_of (hIc (Go.Sort.grow (redrawn W7 d) os))
          have HIN : Hid (¬ InSh s x) := hin
          clear hin hin' hIc
          refine wp_region_quiet_below (by kernel_rfl) (by kernel_rfl) ?_
          iterate 3 (quiet_step (fail))
          quiet_step (exact cI _ _)
          iterate 2 (quiet_step (fail))
          iterate 3 (rw [wpQuiet_eq]; go_simp)
          iterate 8 (rw [wpQuiet_eq]; go_simp; rw [if_neg (by intro h; cases h)])
          rw [wpQuiet_eq]
          go_simp
          iterate 1 (quiet_step (fail))
          refine wpQuiet_nil ?_
          rintro ⟨dq, osq⟩
          dsimp only
          have bR := H7.out.1.trans ((below_regrown W7 dq osq).mono H7.out.1.size)
          have sR := H7.out.2.1.below (below_regrown W7 dq osq) H7.out.2.1.lt
          go_wp2
          exact ⟨rfl, bR, .inl ⟨fun h => HIN.out (h.2.2 x (List.mem_of_getElem? HX.out.1)), rfl⟩⟩
      · obtain rfl : i = n := by omega
        have HF : Hid (CheckE w s ps (.returned (.tuple #[])) wr) := ⟨bl, .inr ⟨by rw [← H.out.1.1] at hup; exact hup.all HS.out, rfl⟩⟩
        clear bl hsh hup
        go_wp2
        go_end0
        exact HF.out
  · have HS : Hid (¬ RightS s) := hr
    rw [decide_eq_false hr] at HR
    clear hr
    go_wp2_with (go_at_call 59; refine HR.out.mono ?_; rintro e w1 ⟨rfl, b1⟩)
    exact ⟨rfl, HB.out.1.trans (b1.mono HB.out.1.size), .inl ⟨fun h => HS.out h.1, rfl⟩⟩
end Go.Proofs.Yteokhkoaieibmaa
