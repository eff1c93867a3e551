/- Texts of this seat, one behind the other: CkCheck, CkZeros, WPack, CkSeal. -/
import Derived.Test.YteokhkoaieibmaaJ8
import Derived.BigQuiet
import Derived.Deep.RegionHeld3
import Derived.Lib.QuietBelow
import Derived.Lib.AppendZerosOnto
import Derived.Test.YteokhkoaieibmaaJ5
/- What one call of ckpt's check does. -/
namespace Go.Proofs.Yteokhkoaieibmaa
open Go.RowKit
set_option linter.unusedVariables false
set_option maxRecDepth 4000

def CheckE (w : World) (s : Sh) (ps : List Pl) (e : Ending) (w' : World) : Prop :=
  Below w.heap.size w w' ∧ ((¬ GoodK s ps ∧ e = diedE noBk) ∨ (GoodK s ps ∧ e = .returned (.tuple #[])))
/-- The first i places are right. -/
def Upto (s : Sh) (ps : List Pl) (i : Nat) : Prop := (∀ k p q, k + 1 < i → ps[k]? = some p → ps[k + 1]? = some q → ltP p.1 q.1 = true) ∧ ∀ k p, k < i → ps[k]? = some p → InSh s p
theorem Upto.next {s : Sh} {ps : List Pl} {i : Nat} {p : Pl} (h : Upto s ps i) (hp : ps[i]? = some p) (h1 : InSh s p) (h2 : ∀ o, 0 < i → ps[i - 1]? = some o → ltP o.1 p.1 = true) : Upto s ps (i + 1) := by
  refine ⟨fun k x y hk hx hy => ?_, fun k x hk hx => ?_⟩
  · rcases Nat.lt_or_ge (k + 1) i with h' | h'
    · exact h.1 k x y h' hx hy
    · obtain rfl : i = k + 1 := by omega
      rw [hp] at hy; cases hy
      exact h2 x (by omega) (by simpa using hx)
  · rcases Nat.lt_or_ge k i with h' | h'
    · exact h.2 k x h' hx
    · obtain rfl : k = i := by omega
      rw [hp] at hx; cases hx
      exact h1
theorem Upto.all {s : Sh} {ps : List Pl} (hr : RightS s) (h : Upto s ps ps.length) : GoodK s ps := by
  refine ⟨hr, fun i p q hp hq => h.1 i p q (List.getElem?_eq_some_iff.1 hq).1 hp hq, fun p hp => ?_⟩
  obtain ⟨k, hk⟩ := List.getElem?_of_mem hp
  exact h.2 k p (List.getElem?_eq_some_iff.1 hk).1 hk
theorem wpQuiet_eq {P : Program} {ops : Array Oper} {C : World → Prop} {Q : Act → Prop} {o : Oper} {rest : List Oper} {a : Act} : wpQuiet P ops C Q (o :: rest) a = if Region.wanted o (yielded ops a.tmps) = true then o.quiet P a C (wpQuiet P ops C Q rest) else wpQuiet P ops C Q rest (a.put o.dst undef) := rfl
set_option maxHeartbeats 4000000 in
theorem kcheck_of (s : Sh) (A : Option Addr) (n C : Nat) (ps : List Pl) (w : World) (hz : -9223372036854775808 ≤ s.z) (hk : KIn w A n ps) :
    Calls Try.prog 35 #[.agg (shL s).toArray, .slice A n C] w (CheckE w s ps) := by
  obtain ⟨q, hq⟩ : ∃ q, q = w.heap.size := ⟨_, rfl⟩
  have H : Hid (KIn w A n ps ∧ q = w.heap.size) := ⟨hk, hq⟩
  have hm : n ≤ 9223372036854775807 := by have := hk.2.1; unfold maxLen at this; omega
  have hb : Blk (w.alloc (.cells #[.int .i64 s.z, .int .i64 s.zb, .int .i64 s.b, .int .i64 s.r] 23)) q (shL s) 23 := Blk.new' hq.symm rfl
  have hbel : Below w.heap.size w (w.alloc (.cells #[.int .i64 s.z, .int .i64 s.zb, .int .i64 s.b, .int .i64 s.r] 23)) := (Below.refl _ _).alloc (Nat.le_refl _) _
  simp only [shL]
  go_enter Try.func35, Try.ntmps35
  go_upto_region 1 with fail
  rw [← hq]
  generalize hW1 : World.alloc _ _ = W1 at *
  have HR : Hid (Calls Try.prog 59 #[.agg #[.int .i64 s.z, .int .i64 s.zb, .int .i64 s.b, .int .i64 s.r]] W1 fun e w' => e = .returned (.bool (decide (RightS s))) ∧ Below W1.heap.size W1 w') := right_of s W1 hz
  have e0 : W1.cell? ⟨q, 0, none⟩ = some (.int .i64 s.z) := hb.cell 0
  have e1 : W1.cell? ⟨q, 1, none⟩ = some (.int .i64 s.zb) := hb.cell 1
  have e2 : W1.cell? ⟨q, 2, none⟩ = some (.int .i64 s.b) := hb.cell 2
  have e3 : W1.cell? ⟨q, 3, none⟩ = some (.int .i64 s.r) := hb.cell 3
  have HB : Hid (Below w.heap.size w W1 ∧ Blk W1 q (shL s) 23) := ⟨hbel, hb⟩
  clear hW1 hb hbel hq hk
  by_cases hr : RightS s
  · have HS : Hid (RightS s) := hr
    rw [decide_eq_true hr] at HR
    clear hr
    go_wp2_with (go_at_call 59; refine HR.out.mono ?_; rintro e w1 ⟨rfl, b1⟩)
    have HB1 : Hid (Below w.heap.size w w1 ∧ Blk w1 q (shL s) 23) := ⟨HB.out.1.trans (b1.mono HB.out.1.size), HB.out.2.below b1 HB.out.2.lt⟩
    clear b1 e0 e1 e2 e3
    go_loopw [12] (fun x wr => ∃ i : Nat, x = .int .i64 i ∧ i ≤ n ∧ Below w.heap.size w wr ∧ Blk wr q (shL s) 23 ∧ Upto s ps i) (fun x _ => n - (intOf x).toNat)
    case atStart => exact ⟨0, rfl, Nat.zero_le _, HB1.out.1, HB1.out.2, ⟨fun k p q h => by omega, fun k p h => by omega⟩⟩
    case round =>
      obtain ⟨i, rfl, hi, bl, hsh, hup⟩ := hrel
      rcases Nat.lt_or_ge i n with hlt | hge
      · obtain ⟨x, hx⟩ : ∃ x, ps[i]? = some x := ⟨ps[i]'(by have := H.out.1.1; omega), by simp⟩
        obtain ⟨b', off, hA, hc⟩ := (H.out.1.below bl).2.2.2.resolve_left (by omega)
        subst hA
        have d0 : wr.cell? ⟨b', off + i * 4, none⟩ = some (.int .u32 x.1.1) := hc i x hx 0 _ rfl
        have d1 : wr.cell? ⟨b', off + i * 4 + 1, none⟩ = some (.int .u64 x.1.2) := hc i x hx 1 _ rfl
        have d2 : wr.cell? ⟨b', off + i * 4 + 2, none⟩ = some (.int .i64 x.2.1) := hc i x hx 2 _ rfl
        have d3 : wr.cell? ⟨b', off + i * 4 + 3, none⟩ = some (.int .i64 x.2.2) := hc i x hx 3 _ rfl
        obtain ⟨qi, hqi⟩ : ∃ qi, qi = wr.heap.size := ⟨_, rfl⟩
        have kb : Blk (wr.alloc (.cells #[.int .u32 x.1.1, .int .u64 x.1.2, .int .i64 x.2.1, .int .i64 x.2.2] 83)) qi (plL x) 83 := Blk.new' hqi.symm rfl
        have hsh7 := hsh.alloc (.cells #[.int .u32 x.1.1, .int .u64 x.1.2, .int .i64 x.2.1, .int .i64 x.2.2] 83)
        have bl7 := bl.alloc bl.size (.cells #[.int .u32 x.1.1, .int .u64 x.1.2, .int .i64 x.2.1, .int .i64 x.2.2] 83)
        have bl7' := bl7
        have hi' : (i : Int) < n := by omega
        have hwi : IntKind.i64.wrap ((i : Int) + 1) = (i : Int) + 1 := by rw [IntKind.wrap_i64]; omega
        have hwm : IntKind.i64.wrap ((i : Int) - 1) = (i : Int) - 1 := by rw [IntKind.wrap_i64]; omega
        have HX : Hid (ps[i]? = some x ∧ Upto s ps i) := ⟨hx, hup⟩
        clear hup hx
        go_upto_region 6 with fail
        rw [← hqi]
        clear hqi d0 d1 d2 d3
        have hA7 := (H.out.1.below bl7').2.2.2.resolve_left (by omega)
        generalize hW7 : World.alloc wr _ = W7 at kb hsh7 bl7 bl7' hA7 ⊢
        clear hW7
        have k0 : W7.cell? ⟨qi, 0, none⟩ = some (.int .u32 x.1.1) := kb.cell 0
        have k1 : W7.cell? ⟨qi, 1, none⟩ = some (.int .u64 x.1.2) := kb.cell 1
        have k2 : W7.cell? ⟨qi, 2, none⟩ = some (.int .i64 x.2.1) := kb.cell 2
        have k3 : W7.cell? ⟨qi, 3, none⟩ = some (.int .i64 x.2.2) := kb.cell 3
        have g0 : W7.cell? ⟨q, 0, none⟩ = some (.int .i64 s.z) := hsh7.cell 0
        have g1 : W7.cell? ⟨q, 1, none⟩ = some (.int .i64 s.zb) := hsh7.cell 1
        have g2 : W7.cell? ⟨q, 2, none⟩ = some (.int .i64 s.b) := hsh7.cell 2
        have g3 : W7.cell? ⟨q, 3, none⟩ = some (.int .i64 s.r) := hsh7.cell 3
        have hIc : ∀ X : World, Calls Try.prog 63 #[.agg #[.int .i64 s.z, .int .i64 s.zb, .int .i64 s.b, .int .i64 s.r], .agg #[.int .i64 x.2.1, .int .i64 x.2.2]] X fun e w' => e = .returned (.bool (decide (2 ≤ x.2.1 ∧ x.2.1 < s.z ∧ 0 ≤ x.2.2 ∧ x.2.2 < s.zb))) ∧ Below X.heap.size X w' := kinLog_of s x.2.1 x.2.2
        have H7 : Hid (Below w.heap.size w W7 ∧ Blk W7 q (shL s) 23 ∧ Blk W7 qi (plL x) 83) := ⟨bl7, hsh7, kb⟩
        have r0 := fun d os => cell_regrown k0 d os
        have r1 := fun d os => cell_regrown k1 d os
        have r2 := fun d os => cell_regrown k2 d os
        have r3 := fun d os => cell_regrown k3 d os
        have t0 := fun d os => cell_regrown g0 d os
        have t1 := fun d os => cell_regrown g1 d os
        have t2 := fun d os => cell_regrown g2 d os
        have t3 := fun d os => cell_regrown g3 d os
        clear kb hsh7 bl7 bl7' hA7 bl hsh hc k0 k1 k2 k3 g0 g1 g2 g3
        by_cases hin : InSh s x
        · have hin' : 2 ≤ x.2.1 ∧ x.2.1 < s.z ∧ 0 ≤ x.2.2 ∧ x.2.2 < s.zb := hin
          rw [decide_eq_true hin'] at hIc
          have cI := fun d os => Calls.regrown_of (hIc (Go.Sort.grow (redrawn W7 d) os))
          have HIN : Hid (InSh s x) := hin
          clear hin hin' hIc
          rcases Nat.eq_zero_or_pos i with h0 | h0
          · have z1 : decide ((0 : Int) < (i : Int)) = false := by simp; omega
            have z2 : decide (0 < i) = false := by simp; omega
            have HZ : Hid (i = 0) := h0
            clear h0
            refine wp_region_quiet_below (by kernel_rfl) (by kernel_rfl) ?_
            iterate 3 (quiet_step (fail))
            quiet_step (exact cI _ _)
            iterate 5 (quiet_step (fail))
            iterate 8 (rw [wpQuiet_eq]; go_simp)
            iterate 2 (quiet_step (fail))
            refine wpQuiet_nil ?_
            rintro ⟨dq, osq⟩
            dsimp only
            have bR := H7.out.1.trans ((below_regrown W7 dq osq).mono H7.out.1.size)
            have sR := H7.out.2.1.below (below_regrown W7 dq osq) H7.out.2.1.lt
            have HN : Hid (Below w.heap.size w (Go.Sort.grow (redrawn W7 dq) osq) ∧ Blk (Go.Sort.grow (redrawn W7 dq) osq) q (shL s) 23 ∧ Upto s ps (i + 1)) := ⟨bR, sR, HX.out.2.next HX.out.1 HIN.out (fun _ h => absurd HZ.out (by omega))⟩
            clear bR sR r0 r1 r2 r3 t0 t1 t2 t3 cI
            generalize Go.Sort.grow _ _ = V at HN ⊢
            go_wp2
            go_roundw
            case rel => exact ⟨i + 1, by simp, by omega, HN.out.1, HN.out.2.1, HN.out.2.2⟩
            case measure => simp [intOf]; omega
          · obtain ⟨j, hj⟩ : ∃ j, i = j + 1 := ⟨i - 1, by omega⟩
            have hpos : (0 : Int) < i := by omega
            have hwj : IntKind.i64.wrap ((i : Int) - 1) = (j : Int) := by rw [IntKind.wrap_i64]; omega
            have hjn : (j : Int) < n := by omega
            obtain ⟨o, ho⟩ : ∃ o, ps[j]? = some o := ⟨ps[j]'(by have := H.out.1.1; omega), by simp⟩
            have HO : Hid (ps[j]? = some o ∧ i = j + 1) := ⟨ho, hj⟩
            obtain ⟨b2, off2, hA2, hc2⟩ := (H.out.1.below H7.out.1).2.2.2.resolve_left (by omega)
            cases hA2
            have p0 := fun d os => cell_regrown (show W7.cell? ⟨b', off + j * 4, none⟩ = some (.int .u32 o.1.1) from hc2 j o ho 0 _ rfl) d os
            have p1 := fun d os => cell_regrown (show W7.cell? ⟨b', off + j * 4 + 1, none⟩ = some (.int .u64 o.1.2) from hc2 j o ho 1 _ rfl) d os
            have p2 := fun d os => cell_regrown (show W7.cell? ⟨b', off + j * 4 + 2, none⟩ = some (.int .i64 o.2.1) from hc2 j o ho 2 _ rfl) d os
            have p3 := fun d os => cell_regrown (show W7.cell? ⟨b', off + j * 4 + 3, none⟩ = some (.int .i64 o.2.2) from hc2 j o ho 3 _ rfl) d os
            clear hj ho hwm hc2
            have hRc : ∀ X : World, Calls Try.prog 64 #[.agg #[.int .u32 o.1.1, .int .u64 o.1.2, .int .i64 o.2.1, .int .i64 o.2.2], .agg #[.int .u32 x.1.1, .int .u64 x.1.2, .int .i64 x.2.1, .int .i64 x.2.2]] X fun e w' => e = .returned (.bool (ltP o.1 x.1)) ∧ Below X.heap.size X w' := krises_of o x
            by_cases hlr : ltP o.1 x.1 = true
            · have HL : Hid (ltP o.1 x.1 = true) := hlr
              rw [hlr] at hRc
              have cR := fun d os => Calls.regrown_of (hRc (Go.Sort.grow (redrawn W7 d) os))
              clear hlr hRc
              refine wp_region_quiet_below (by kernel_rfl) (by kernel_rfl) ?_
              iterate 3 (quiet_step (fail))
              quiet_step (exact cI _ _)
              iterate 11 (quiet_step (fail))
              quiet_step (exact cR _ _)
              iterate 3 (quiet_step (fail))
              refine wpQuiet_nil ?_
              intro _ hw'
              obtain ⟨⟨dq, osq⟩, hw''⟩ := hw'
              subst hw''
              have bR := H7.out.1.trans ((below_regrown W7 dq osq).mono H7.out.1.size)
              have sR := H7.out.2.1.below (below_regrown W7 dq osq) H7.out.2.1.lt
              have HN : Hid (Below w.heap.size w (Go.Sort.grow (redrawn W7 dq) osq) ∧ Blk (Go.Sort.grow (redrawn W7 dq) osq) q (shL s) 23 ∧ Upto s ps (i + 1)) := ⟨bR, sR, HX.out.2.next HX.out.1 HIN.out (fun o' _ h => by rw [HO.out.2, Nat.add_sub_cancel, HO.out.1] at h; cases h; exact HL.out)⟩
              clear bR sR r0 r1 r2 r3 t0 t1 t2 t3 cI cR p0 p1 p2 p3
              generalize Go.Sort.grow _ _ = V at HN ⊢
              go_wp2
              go_roundw
              case rel => exact ⟨i + 1, by simp, by omega, HN.out.1, HN.out.2.1, HN.out.2.2⟩
              case measure => simp [intOf]; omega
            · have hlr' : ltP o.1 x.1 = false := by simpa using hlr
              rw [hlr'] at hRc
              have cR := fun d os => Calls.regrown_of (hRc (Go.Sort.grow (redrawn W7 d) os))
              have HL : Hid (ltP o.1 x.1 = false) := hlr'
              clear hlr hlr' hRc
              refine wp_region_quiet_below (by kernel_rfl) (by kernel_rfl) ?_
              iterate 3 (quiet_step (fail))
              quiet_step (exact cI _ _)
              iterate 11 (quiet_step (fail))
              quiet_step (exact cR _ _)
              iterate 3 (quiet_step (fail))
              refine wpQuiet_nil ?_
              intro _ hw'
              obtain ⟨⟨dq, osq⟩, hw''⟩ := hw'
              subst hw''
              have bR := H7.out.1.trans ((below_regrown W7 dq osq).mono H7.out.1.size)
              have sR := H7.out.2.1.below (below_regrown W7 dq osq) H7.out.2.1.lt
              go_wp2
              refine ⟨rfl, bR, .inl ⟨fun h => ?_, rfl⟩⟩
              have := h.2.1 j o x HO.out.1 (by rw [← HO.out.2]; exact HX.out.1)
              rw [HL.out] at this
              cases this
        · have hin' : ¬ (2 ≤ x.2.1 ∧ x.2.1 < s.z ∧ 0 ≤ x.2.2 ∧ x.2.2 < s.zb) := hin
          rw [decide_eq_false hin'] at hIc
          have cI := fun d os => Calls.regrown_of (hIc (Go.Sort.grow (redrawn W7 d) os))
          have HIN : Hid (¬ InSh s x) := hin
          clear hin hin' hIc
          refine wp_region_quiet_below (by kernel_rfl) (by kernel_rfl) ?_
          iterate 3 (quiet_step (fail))
          quiet_step (exact cI _ _)
          iterate 2 (quiet_step (fail))
          iterate 3 (rw [wpQuiet_eq]; go_simp)
          iterate 8 (rw [wpQuiet_eq]; go_simp; rw [if_neg (by intro h; cases h)])
          rw [wpQuiet_eq]
          go_simp
          iterate 1 (quiet_step (fail))
          refine wpQuiet_nil ?_
          rintro ⟨dq, osq⟩
          dsimp only
          have bR := H7.out.1.trans ((below_regrown W7 dq osq).mono H7.out.1.size)
          have sR := H7.out.2.1.below (below_regrown W7 dq osq) H7.out.2.1.lt
          go_wp2
          exact ⟨rfl, bR, .inl ⟨fun h => HIN.out (h.2.2 x (List.mem_of_getElem? HX.out.1)), rfl⟩⟩
      · obtain rfl : i = n := by omega
        have HF : Hid (CheckE w s ps (.returned (.tuple #[])) wr) := ⟨bl, .inr ⟨by rw [← H.out.1.1] at hup; exact hup.all HS.out, rfl⟩⟩
        clear bl hsh hup
        go_wp2
        go_end0
        exact HF.out
  · have HS : Hid (¬ RightS s) := hr
    rw [decide_eq_false hr] at HR
    clear hr
    go_wp2_with (go_at_call 59; refine HR.out.mono ?_; rintro e w1 ⟨rfl, b1⟩)
    exact ⟨rfl, HB.out.1.trans (b1.mono HB.out.1.size), .inl ⟨fun h => HS.out h.1, rfl⟩⟩
end Go.Proofs.Yteokhkoaieibmaa

/- Appending noughts to a row of bytes of the call's own (append of make), as greet has it. -/
namespace Go.Proofs.Yteokhkoaieibmaa
open Go.RowKit
set_option linter.unusedVariables false
set_option maxRecDepth 4000

theorem zeroCells_one (z : Value) (k : Nat) : Builtin.zeroCells #[z] k = (List.replicate k z).toArray := by
  apply Array.ext'
  apply List.ext_getElem
  · simp [Builtin.zeroCells]
  · intro i h1 h2
    simp [Builtin.zeroCells, Nat.mod_one]
theorem run_append_room_zeros {P : Program} (w : World) (t tn ty e : TypeId) (i : TypeInfo) (kq kn : IntKind) (ht : P.underlying t = some (.slice e)) (htn : P.underlying tn = some (.int kn)) (hi : P.info? e = some i) (hz : i.zero = some (.int .u8 0)) (hs1 : i.size = 1) (hby : i.bytes = 1)
    (g sLen sCap : Nat) (cur : Array Value) (hg : w.heap[g]? = some (.cells cur e (0, 0))) (k : Nat) (h0 : 0 < k) (hle : k ≤ 1000000) (hroom : sLen + k ≤ sCap) (hfit : sLen + k ≤ cur.size) :
    (Builtin.append_ #[t, tn] ty #[.slice (some ⟨g, 0, none⟩) sLen sCap, .int kq k]).run P w =
      .ok (.slice (some ⟨g, 0, none⟩) (sLen + k) sCap) (w.setRow g (cur.toList.take sLen ++ List.replicate k (Value.int .u8 0) ++ cur.toList.drop (sLen + k)).toArray) := by
  have hst := run_storeCells_at P g sLen e (List.replicate k (.int .u8 0)) 0 cur w hg (by simpa using hfit) (by intro u hu; rw [(List.mem_replicate.1 hu).2]; rfl)
  simp only [Nat.add_zero, List.length_replicate] at hst
  have hw : IntKind.i64.wrap (k : Int) = k := by rw [IntKind.wrap_i64]; omega
  have hneg : ¬ ((k : Int) < 0) := by omega
  have h48i : ¬ (281474976710656 < (k : Int)) := by omega
  have hk0 : ¬ (k = 0) := by omega
  have hzc : Builtin.zeroCells (Value.int .u8 0).cells k = (List.replicate k (.int .u8 0)).toArray := zeroCells_one _ k
  simp [Builtin.append_, run_underlying ht, run_underlying htn, sizeOf, typeInfo, zeroValue, hi, hz, hs1, hby, asInt, asIntOf, hw, hneg, h48i, hk0, hroom, hzc, Addr.add_lit, hst]
theorem run_append_own_zeros {P : Program} (w : World) (base : Nat) (t tn ty e : TypeId) (i : TypeInfo) (kq kn : IntKind) (ht : P.underlying t = some (.slice e)) (htn : P.underlying tn = some (.int kn)) (hi : P.info? e = some i) (hz : i.zero = some (.int .u8 0)) (hsize : i.size = 1) (hby : i.bytes = 1)
    (v : Value) (n : Nat) (xs : List Value) (hown : w.ownsRow base e 1 v n xs) (k : Nat) (h0 : 0 < k) (hle : n + k ≤ 1000000) (hbase : base ≤ w.heap.size) :
    ∃ v' w', (Builtin.append_ #[t, tn] ty #[v, .int kq k]).run P w = .ok v' w' ∧ w'.ownsRow base e 1 v' (n + k) (xs ++ List.replicate k (.int .u8 0)) ∧ w.grownBy w' v.ownBlock := by
  have h63 : n + k ≤ maxLen := by unfold maxLen; omega
  have hxl : xs.length = n := by simpa using hown.1
  have hlen : (xs ++ List.replicate k (Value.int .u8 0)).length = (n + k) * 1 := by rw [List.length_append, hxl, List.length_replicate, Nat.mul_one]
  have hzc : Builtin.zeroCells (Value.int .u8 0).cells k = (List.replicate k (.int .u8 0)).toArray := zeroCells_one _ k
  have grown : ∀ (old : Nat), old < n + k → ∀ (row : Option Nat),
      (w.drew.alloc (.cells (xs.toArray ++ Builtin.zeroCells (Value.int .u8 0).cells k ++ Builtin.zeroCells (Value.int .u8 0).cells (grownCap w (n + k) old e - (n + k))) e)).ownsRow base e 1
        (.slice (some ⟨w.heap.size, 0, none⟩) (n + k) (grownCap w (n + k) old e)) (n + k) (xs ++ List.replicate k (.int .u8 0)) ∧
      w.grownBy (w.drew.alloc (.cells (xs.toArray ++ Builtin.zeroCells (Value.int .u8 0).cells k ++ Builtin.zeroCells (Value.int .u8 0).cells (grownCap w (n + k) old e - (n + k))) e)) row := by
    intro old ho row
    have hge := grownCap_ge w (n + k) old e
    have hcm : grownCap w (n + k) old e ≤ maxLen := grownCap_le_maxLen w (n + k) old e h63
    refine ⟨⟨hlen, .inr ⟨w.heap.size, _, _, rfl, hbase, heap_alloc_new w.drew _, hge, hcm, ?_, ?_⟩⟩, ⟨rfl, rfl, rfl, by simp, fun j hj _ => heap_alloc_old w.drew _ hj⟩⟩
    · have hz1 : (Value.int IntKind.u8 0).cells.size = 1 := rfl
      simp only [Array.size_append, List.size_toArray, size_zeroCells, hz1, hxl]
      omega
    · rw [hzc]
      simp only [Array.toList_append, List.append_assoc]
      rw [← List.append_assoc, ← hlen]
      exact List.take_left
  rcases hown.2 with ⟨rfl, rfl⟩ | ⟨g, cap, cur, rfl, hbg, hg, hnc, hcm, hcs, htake⟩
  · have hx : xs = [] := List.eq_nil_of_length_eq_zero hxl
    subst hx
    have hr := Lib.run_append_grow_zeros (P := P) w t tn ty e i (.int .u8 0) kq kn ht htn hi hz none 0 0 [] (by simp [Builtin.firstCells]) k h0 (by omega) (by omega) (by omega) (by rw [hby]; omega) (by rw [hby]; exact growslice_fits (by omega) (by omega))
    have hgr := grown 0 (by omega) (Value.ownBlock (.slice none 0 0))
    exact ⟨_, _, hr, hgr.1, hgr.2⟩
  · by_cases hroom : n + k ≤ cap
    · have hcs' : cur.size = cap := by simpa using hcs
      have hr := run_append_room_zeros (P := P) w t tn ty e i kq kn ht htn hi hz hsize hby g n cap cur hg k h0 (by omega) hroom (by omega)
      refine ⟨_, _, hr, ⟨hlen, .inr ⟨g, cap, _, rfl, hbg, setRow_heap w g cur _ e _ hg, hroom, hcm, ?_, ?_⟩⟩, ⟨rfl, rfl, rfl, by simp, fun k _ hk => setRow_other w g k _ (fun e => hk (by simp [Value.ownBlock, e]))⟩⟩
      · simp only [List.size_toArray, List.length_append, List.length_take, List.length_drop, Array.length_toList, List.length_replicate]
        omega
      · have ht' : cur.toList.take n = xs := by simpa using htake
        rw [ht', ← hlen]
        exact List.take_left
    · have holds : ∀ j u, xs[j]? = some u → w.cell? ((⟨g, 0, none⟩ : Addr).add j) = some u := hown.cells (g := g) rfl
      have hfo := run_firstCells_some (P := P) w.drew i.size n ⟨g, 0, none⟩ n cap xs (by rw [hsize]; simpa using hxl) (by simpa using holds)
      have hr := Lib.run_append_grow_zeros (P := P) w t tn ty e i (.int .u8 0) kq kn ht htn hi hz (some ⟨g, 0, none⟩) n cap xs hfo k h0 (by omega) (by omega) (by omega) (by rw [hby]; omega) (by rw [hby]; exact growslice_fits (by omega) (by omega))
      have hgr := grown cap (by omega) (Value.ownBlock (.slice (some ⟨g, 0, none⟩) n cap))
      exact ⟨_, _, hr, hgr.1, hgr.2⟩
theorem u8s_rep (k : Nat) : List.replicate k (Value.int .u8 0) = u8s (List.replicate k 0) := by simp [u8s]
/-- The operation, for the walk. -/
theorem wpList_append_zeros {ops : Array Oper} {rest : List Oper} {o : Oper} {a : Act} {Q : Exit → Act → World → Prop} {w : World} (hgd : o.guard = none) (s x : Operand)
    (ho : o.op = .call { callee := .builtin .append, args := #[s, x], argTypes := #[39, 3] }) (base : Nat)
    (a0 : Option Addr) (n0 c0 : Nat) (xs : List Int) (hs : a.eval s = .slice a0 n0 c0) (hown : w.ownsRow base 5 1 (.slice a0 n0 c0) n0 (u8s xs))
    (k : Nat) (hx : a.eval x = .int .i64 k) (h0 : 0 < k) (hle : n0 + k ≤ 1000000) (hbase : base ≤ w.heap.size)
    (h : ∀ a' c' w', w'.ownsRow base 5 1 (.slice a' (n0 + k) c') (n0 + k) (u8s (xs ++ List.replicate k 0)) → Below base w w' → wpList Try.prog ops Q rest (a.put o.dst (.slice a' (n0 + k) c')) w') :
    wpList Try.prog ops Q (o :: rest) a w := by
  obtain ⟨i0, hi, hz0, hz1, hz2⟩ := info_parts Try.zero_u8
  refine wpList_plain hgd fun K hK => ?_
  obtain ⟨v', w', hr, hown', hgrow⟩ := run_append_own_zeros (P := Try.prog) w base 39 3 o.type 5 i0 .i64 .i64 Try.underlying39 Try.underlying3 hi hz0 hz1 hz2 _ n0 (u8s xs) hown k h0 hle hbase
  have hb : Below base w w' := (Below.refl base w).grown hgrow hbase (fun k hk => (hown.lt k hk).1)
  have hcat : u8s xs ++ List.replicate k (Value.int .u8 0) = u8s (xs ++ List.replicate k 0) := by simp [u8s]
  rw [hcat] at hown'
  obtain ⟨a', c', rfl⟩ : ∃ a' c', v' = .slice a' (n0 + k) c' := by
    rcases hown'.2 with ⟨hv, hn⟩ | ⟨g, cap, cur, hv, _⟩
    · exact ⟨none, 0, by rw [hv, hn]⟩
    · exact ⟨_, _, hv⟩
  unfold Oper.wp execOp
  simp only [ho, resolve, invoke, builtin, Sem.run_bind, Sem.run_pure, Result.andThen_ok, List.map_toArray, List.map_cons, List.map_nil, hs, hx, hr]
  exact hK _ _ (h a' c' w' hown' hb)
end Go.Proofs.Yteokhkoaieibmaa

/- What one call of wire's Pack does. -/
namespace Go.Proofs.Yteokhkoaieibmaa
open Go.RowKit
set_option linter.unusedVariables false
set_option maxRecDepth 4000

/-- One more number of both lists. -/
theorem pack_next (ws vs : List Int) {i : Nat} (h1 : i < ws.length) (h2 : i < vs.length) :
    packL (ws.take (i + 1)) (vs.take (i + 1)) = packL (ws.take i) (vs.take i) ++ bigI (wd (ws.getD i 0)) (vs.getD i 0) := by
  rw [take_next ws h1, take_next vs h2, packL_snoc _ _ _ _ (by rw [List.length_take, List.length_take]; omega)]
theorem pack_len (ws vs : List Int) : (packL ws vs).length ≤ 8 * ws.length := by
  have h := packL_take ws vs (min ws.length vs.length) rfl
  rw [← h, packL_length _ _ (by rw [List.length_take, List.length_take]; omega)]
  have := offL_le (ws.take (min ws.length vs.length))
  rw [List.length_take] at this
  omega
set_option maxHeartbeats 1000000 in
theorem pack_of (a : Option Addr) (n c : Nat) (ws : List Int) (b : Option Addr) (m d : Nat) (vs : List Int) (w : World) (hx : NIn .i64 w a n ws) (hy : NIn .u64 w b m vs) (hn : n ≤ 100000) (hm : m ≤ 100000) :
    Calls Try.prog 66 #[.slice a n c, .slice b m d] w fun e w' => ∃ a' k' c', e = .returned (.slice a' k' c') ∧ k' = (packL ws vs).length ∧ w'.ownsRow w.heap.size 5 1 (.slice a' k' c') k' (u8s (packL ws vs)) ∧ Below w.heap.size w w' := by
  obtain ⟨i0, hi0, hz0, hz1, hz2⟩ := info_parts Try.zero_u8
  obtain ⟨q, hq⟩ : ∃ q, q = w.heap.size := ⟨_, rfl⟩
  obtain ⟨M, hM⟩ : ∃ M : Nat, M = min n m := ⟨_, rfl⟩
  have hM' : (if m < n then (m : Int) else n) = M := by rw [hM]; split <;> omega
  have hMb : M ≤ 100000 := by omega
  have H : Hid (NIn .i64 w a n ws ∧ NIn .u64 w b m vs ∧ q = w.heap.size ∧ Try.prog.info? 5 = some i0 ∧ i0.zero = some (.int .u8 0) ∧ i0.size = 1 ∧ i0.bytes = 1 ∧ M = min n m) := ⟨hx, hy, hq, hi0, hz0, hz1, hz2, hM⟩
  have hMn : M ≤ n := by omega
  have hMm : M ≤ m := by omega
  rw [← hq]
  clear hx hy hi0 hz0 hz1 hz2 hM
  go_enter Try.func66, Try.ntmps66
  go_upto_region 3 with (at_make; refine wpList_make_own w rfl _ (.tmp 14) 39 rfl q 5 i0 (.int .u8 0) 1 Try.underlying39 H.out.2.2.2.1 H.out.2.2.2.2.1 H.out.2.2.2.2.2.1 .i64 .i64 _ (8 * M) rfl rfl (by omega) (by rw [H.out.2.2.2.2.2.2.1]; omega) (by unfold maxLen; omega) (by rw [H.out.2.2.1]; exact Nat.le_refl _) ?_; intro w1 ow1 gr1)
  have bl1 : Below q w w1 := (Below.refl _ _).grown gr1 (by rw [H.out.2.2.1]; exact Nat.le_refl _) (fun g hg => by cases hg)
  have H1 : Hid (w1.ownsRow q 5 1 (.slice (some ⟨w.heap.size, 0, none⟩) 0 (8 * M)) 0 (u8s []) ∧ Below q w w1) := ⟨ow1, bl1⟩
  rw [← hq] at H1 ⊢
  clear hq ow1 gr1 bl1 hM'
  go_wp2
  go_loopw [6, 17] (fun s i wr => ∃ (j : Nat) (a' : Option Addr) (k' c' : Nat), j ≤ M ∧ i = .int .i64 j ∧ s = .slice a' k' c' ∧ k' = (packL (ws.take j) (vs.take j)).length ∧ wr.ownsRow q 5 1 (.slice a' k' c') k' (u8s (packL (ws.take j) (vs.take j))) ∧ Below q w wr)
    (fun _ i _ => M - (intOf i).toNat)
  case atStart => exact ⟨0, _, _, _, by omega, rfl, rfl, rfl, by simpa [packL] using H1.out.1, H1.out.2⟩
  case round =>
    obtain ⟨j, a', k', c', hj, rfl, rfl, hk', ow, bl⟩ := hrel
    have HK : Hid (k' = (packL (ws.take j) (vs.take j)).length ∧ wr.ownsRow q 5 1 (.slice a' k' c') k' (u8s (packL (ws.take j) (vs.take j))) ∧ Below q w wr) := ⟨hk', ow, bl⟩
    have hkb : k' ≤ 800000 := by
      have := pack_len (ws.take j) (vs.take j)
      rw [List.length_take] at this
      omega
    clear ow bl hk'
    by_cases hlt : j < M
    · have hlt' : (j : Int) < M := by omega
      have hjn : (j : Int) < n := by omega
      have hjm : (j : Int) < m := by omega
      have hqs : Hid (Below w.heap.size w wr ∧ q ≤ wr.heap.size) := ⟨by rw [← H.out.2.2.1]; exact HK.out.2.2, by have := HK.out.2.2.size; rw [H.out.2.2.1] at *; exact this⟩
      obtain ⟨b1, o1, rfl, hc1⟩ := H.out.1.2.2.2.resolve_left (by omega)
      obtain ⟨b2, o2, rfl, hc2⟩ := H.out.2.1.2.2.2.resolve_left (by omega)
      have cw : wr.cell? ⟨b1, o1 + j, none⟩ = some (.int .i64 (ws.getD j 0)) := by rw [hqs.out.1.cell (old_block (hc1 j (by omega)))]; exact hc1 j (by omega)
      have cv : wr.cell? ⟨b2, o2 + j, none⟩ = some (.int .u64 (vs.getD j 0)) := by rw [hqs.out.1.cell (old_block (hc2 j (by omega)))]; exact hc2 j (by omega)
      clear hc1 hc2
      have hv := fitsU (num_fits H.out.2.1.2.2.1 j (by rw [H.out.2.1.1]; omega))
      have hx := bounds_i64 (num_fits H.out.1.2.2.1 j (by rw [H.out.1.1]; omega))
      obtain ⟨X, eX⟩ : ∃ X, X = ws.getD j 0 := ⟨_, rfl⟩
      obtain ⟨V, eV⟩ : ∃ V, V = vs.getD j 0 := ⟨_, rfl⟩
      rw [← eX] at cw hx
      rw [← eV] at cv hv
      have HE : Hid (X = ws.getD j 0 ∧ V = vs.getD j 0) := ⟨eX, eV⟩
      clear eX eV
      unfold FitsU at hv
      obtain ⟨v0, v1⟩ := hv
      obtain ⟨x0, x1⟩ := hx
      have hwd := wd_le X
      obtain ⟨K, hK⟩ : ∃ K, K = wd X := ⟨_, rfl⟩
      have cS := size_of X wr.drew
      rw [← hK] at cS hwd
      have HW : Hid (K = wd X) := hK
      clear hK
      have cA := appendNumber_of a' k' c' (packL (ws.take j) (vs.take j)) V K q wr.drew HK.out.2.1.drew hqs.out.2 v0 v1 hwd (by omega)
      go_wp2
      refine region_tail 10 (by kernel_rfl) (by kernel_rfl) ?_
      simp only [List.take_succ_cons, List.take_zero, List.drop_succ_cons, List.drop_zero]
      iterate 9 still_step
      still_call cS
      refine wpStill_nil ?_
      go_wp2_with (go_at_call 81; refine cA.mono ?_; rintro e w2 ⟨a2, c2, rfl, ow2, bl2⟩)
      go_roundw
      case rel =>
        have e := pack_next ws vs (i := j) (by rw [H.out.1.1]; omega) (by rw [H.out.2.1.1]; omega)
        rw [← HE.out.1, ← HE.out.2, ← HW.out] at e
        refine ⟨j + 1, a2, k' + K, c2, by omega, by go_num, by rfl, ?_, by rw [e]; exact ow2, HK.out.2.2.drew.trans bl2⟩
        rw [e, List.length_append, bigI_length, HK.out.1]
      case measure => simp [intOf]; omega
    · have hge : (M : Int) ≤ j := by omega
      have hjM : j = M := by omega
      have HE : Hid (packL (ws.take j) (vs.take j) = packL ws vs) := by
        show packL (ws.take j) (vs.take j) = packL ws vs
        exact packL_take ws vs j (by rw [hjM, H.out.2.2.2.2.2.2.2, H.out.1.1, H.out.2.1.1])
      clear hjM
      go_wp2
      go_ret
      refine ⟨a', k', c', rfl, ?_, ?_, HK.out.2.2⟩
      · rw [HK.out.1, HE.out]
      · rw [← HE.out]; exact HK.out.2.1
end Go.Proofs.Yteokhkoaieibmaa

/- What one call of ckpt's sealed does. -/
namespace Go.Proofs.Yteokhkoaieibmaa
open Go.RowKit
set_option linter.unusedVariables false
set_option maxRecDepth 4000

theorem app_bytes {W : World} {base : Nat} {a0 : Option Addr} {n0 c0 : Nat} {xs : List Int} (hown : W.ownsRow base 5 1 (.slice a0 n0 c0) n0 (u8s xs)) {a1 : Option Addr} {n1 c1 : Nat} {zs : List Int} (hin : BIn W a1 n1 zs) (hnil : a1 = none → n1 = 0 ∧ c1 = 0) (hle : n0 + n1 ≤ 1000000) (hb : base ≤ W.heap.size) :
    ∃ a' c' w', (Builtin.append_ #[39, 39] 39 #[.slice a0 n0 c0, .slice a1 n1 c1]).run Try.prog W = .ok (.slice a' (n0 + n1) c') w' ∧ w'.ownsRow base 5 1 (.slice a' (n0 + n1) c') (n0 + n1) (u8s (xs ++ zs)) ∧ Below base W w' ∧ W.grownBy w' (Value.ownBlock (.slice a0 n0 c0)) := by
  obtain ⟨i0, hi, hz0, hz1, hz2⟩ := info_parts Try.zero_u8
  obtain ⟨hl, hm, hfit, hcell⟩ := hin
  cases a1 with
  | none =>
    obtain ⟨rfl, rfl⟩ := hnil rfl
    obtain rfl : zs = [] := List.length_eq_zero_iff.1 hl
    refine ⟨a0, c0, W, run_append_owned_none (P := Try.prog) W base 39 39 5 i0 1 Try.underlying39 hi _ n0 (u8s xs) hown, by simpa using hown, Below.refl _ _, ⟨rfl, rfl, rfl, Nat.le_refl _, fun _ _ _ => rfl⟩⟩
  | some ad =>
    obtain ⟨v', w', h2, h3, h4, _⟩ := run_append_own (P := Try.prog) W base 39 39 5 i0 (.int .u8 0) 1 1 Try.underlying39 hi hz0 hz1 hz2 rfl (by decide) _ n0 (u8s xs) hown ad n1 c1 (u8s zs) (by rw [u8s_length, hl]; omega) (by
      intro j u hj
      have hjl : j < n1 := by have := (List.getElem?_eq_some_iff.1 hj).1; rwa [u8s_length, hl] at this
      rcases hcell with hc | ⟨b, off, ha, hc⟩
      · omega
      · cases ha
        rw [Addr.add_mid, hc j hjl, ← hj]
        simp [u8s, List.getD, hl, hjl]) (u8s_one _) (by unfold maxLen; omega) (by omega) hb
    have hcat : u8s xs ++ u8s zs = u8s (xs ++ zs) := by simp [u8s]
    rw [hcat] at h3
    obtain ⟨a', c', rfl⟩ := own_slice h3
    exact ⟨a', c', w', h2, h3, (Below.refl base W).grown h4 hb (fun k hk => (hown.lt k hk).1), h4⟩
theorem kpack_two {ws vs : List Int} {b d : Option Addr} {n c m f : Nat} {w W : World} {o1 o2 : Obj} (hW : W = (w.alloc o1).alloc o2) (hx : NIn .i64 W b n ws) (hy : NIn .u64 W d m vs) (hn : n ≤ 1000) (hm : m ≤ 1000) :
    Calls Try.prog 66 #[.slice b n c, .slice d m f] W.drew fun e w' => ∃ a' k' c', e = .returned (.slice a' k' c') ∧ k' = (packL ws vs).length ∧ w'.ownsRow w.heap.size 5 1 (.slice a' k' c') k' (u8s (packL ws vs)) ∧ Below w.heap.size w w' := by
  subst hW
  refine (pack_of b n c ws d m f vs _ hx.drew hy.drew (by omega) (by omega)).mono ?_
  rintro e w' ⟨a', k', c', h1, h2, h3, h4⟩
  refine ⟨a', k', c', h1, h2, own_lowerN h3 (by simp; omega), ((((Below.refl _ _).alloc (Nat.le_refl _) _).alloc (by simp) _).drew).trans (h4.mono (by simp; omega))⟩
theorem kpack_three {ws vs : List Int} {b d : Option Addr} {n c m f : Nat} {w W : World} {o1 o2 o3 : Obj} (hW : W = ((w.alloc o1).alloc o2).alloc o3) (hx : NIn .i64 W b n ws) (hy : NIn .u64 W d m vs) (hn : n ≤ 1000) (hm : m ≤ 1000) :
    Calls Try.prog 66 #[.slice b n c, .slice d m f] W.drew fun e w' => ∃ a' k' c', e = .returned (.slice a' k' c') ∧ k' = (packL ws vs).length ∧ w'.ownsRow w.heap.size 5 1 (.slice a' k' c') k' (u8s (packL ws vs)) ∧ Below w.heap.size w w' := by
  subst hW
  refine (pack_of b n c ws d m f vs _ hx.drew hy.drew (by omega) (by omega)).mono ?_
  rintro e w' ⟨a', k', c', h1, h2, h3, h4⟩
  refine ⟨a', k', c', h1, h2, own_lowerN h3 (by simp; omega), (((((Below.refl _ _).alloc (Nat.le_refl _) _).alloc (by simp) _).alloc (by simp; omega) _).drew).trans (h4.mono (by simp; omega))⟩
theorem nin_4 {w : World} {g : Nat} (h : w.heap.size = g) : NIn .i64 (w.alloc (.cells #[.int .i64 4] 3)) (some ⟨g, 0, none⟩) 1 [4] := nin_lit 3 h rfl rfl rfl (by omega)
theorem lit_one {K : Int} (h : FitsU K) : ∀ (X : World) (g : Nat), X.heap.size = g → NIn .u64 (X.alloc (.cells #[.int .u64 K] 24)) (some ⟨g, 0, none⟩) 1 [K] :=
  fun X g e => nin_litU 24 e rfl rfl (by intro z hz; simp only [List.mem_cons, List.not_mem_nil, or_false] at hz; subst hz; exact h) (by omega)
/-- A row of which a part is written over. -/
theorem own_splice {W W' : World} {B g n C : Nat} {L zs : List Int} {cur : Array Value} {off : Nat} (hB : B ≤ g) (hn : n ≤ C) (hm : C ≤ maxLen) (hs : cur.size = C) (ht : cur.toList.take n = u8s L) (hL : L.length = n) (ho : off + zs.length ≤ n) (hh : W'.heap[g]? = some (.cells (splice cur.toList off (u8s zs)).toArray 5 (0, 0))) :
    W'.ownsRow B 5 1 (.slice (some ⟨g, 0, none⟩) n C) n (u8s (splice L off zs)) := by
  refine ⟨by rw [u8s_length, splice_length (by omega)]; omega, .inr ⟨g, C, _, rfl, hB, hh, hn, hm, ?_, ?_⟩⟩
  · simp [splice, u8s_length]; omega
  · rw [Nat.mul_one, ← u8s_splice, ← ht]
    unfold splice
    have e1 : (cur.toList.take n).take off = cur.toList.take off := by rw [List.take_take]; congr 1; omega
    rw [e1, List.drop_take, u8s_length, ← List.append_assoc, ← List.append_assoc, List.take_append, List.take_of_length_le (by simp [u8s_length]; omega)]
    congr 2
    simp [u8s_length]; omega
theorem plsB_next {ps : List Pl} {j : Nat} {x : Pl} (h : ps[j]? = some x) : plsB (ps.take (j + 1)) = plsB (ps.take j) ++ plB x := by
  rw [List.take_add_one, h, Option.toList_some, plsB_snoc]
set_option maxHeartbeats 4000000 in
theorem ksealed_of (N : Nat) (A : Option Addr) (c : Nat) (hd : List Int) (a : Option Addr) (m d : Nat) (ps : List Pl) (w : World) (hA : BIn w A 26 hd) (hnil : A = none → 26 = 0 ∧ c = 0) (hk : KIn w a m ps) (hf : ∀ p ∈ ps, Fit2 p) (hN : 28 + 16 * m ≤ N) (hN' : N ≤ 4096) :
    Calls Try.prog 68 #[.int .i64 N, .slice A 26 c, .slice a m d] w fun e w' => ∃ g C, e = .returned (.slice (some ⟨g, 0, none⟩) N C) ∧ w'.ownsRow w.heap.size 5 1 (.slice (some ⟨g, 0, none⟩) N C) N (u8s (joinL (hd ++ plsB ps ++ List.replicate (N - 1 - (26 + 16 * m)) 0 ++ [231]))) ∧ Below w.heap.size w w' := by
  obtain ⟨i0, hi0, hz0, hz1, hz2⟩ := info_parts Try.zero_u8
  obtain ⟨q, hq⟩ : ∃ q, q = w.heap.size := ⟨_, rfl⟩
  have H : Hid (BIn w A 26 hd ∧ (A = none → 26 = 0 ∧ c = 0) ∧ KIn w a m ps ∧ (∀ p ∈ ps, Fit2 p) ∧ q = w.heap.size ∧ Try.prog.info? 5 = some i0 ∧ i0.zero = some (.int .u8 0) ∧ i0.size = 1 ∧ i0.bytes = 1) := ⟨hA, hnil, hk, hf, hq, hi0, hz0, hz1, hz2⟩
  have HN : Hid (28 + 16 * m ≤ N ∧ N ≤ 4096) := ⟨hN, hN'⟩
  have hmm : m ≤ 256 := by omega
  rw [← hq]
  clear hA hnil hk hf hi0 hz0 hz1 hz2 hN hN'
  go_enter Try.func68, Try.ntmps68
  go_upto_region 2 with (first
    | (at_make; refine wpList_make_own w rfl _ (.tmp 10) 39 rfl q 5 i0 (.int .u8 0) 1 Try.underlying39 H.out.2.2.2.2.2.1 H.out.2.2.2.2.2.2.1 H.out.2.2.2.2.2.2.2.1 .i64 .i64 _ N rfl rfl (by have := HN.out; omega) (by rw [H.out.2.2.2.2.2.2.2.2]; have := HN.out; omega) (by have := HN.out; unfold maxLen; omega) (by rw [H.out.2.2.2.2.1]; exact Nat.le_refl _) ?_; intro w1 ow1 gr1; have bl1 : Below q w w1 := (Below.refl _ _).grown gr1 (by rw [H.out.2.2.2.2.1]; exact Nat.le_refl _) (fun g hg => by cases hg))
    | (at_builtin; refine wpList_append_bin rfl (.tmp 11) (.tmp 12) rfl q _ 0 N [] rfl ow1 A 26 c hd rfl (H.out.1.below (by rw [← H.out.2.2.2.2.1]; exact bl1)) H.out.2.1 (by omega) (by rw [H.out.2.2.2.2.1]; exact bl1.size) ?_; intro a2 c2 w2 ow2 bl2))
  have H2 : Hid (w2.ownsRow q 5 1 (.slice a2 (0 + 26) c2) (0 + 26) (u8s (hd ++ plsB (ps.take 0))) ∧ Below q w w2) := ⟨by simpa [plsB] using ow2, bl1.trans bl2⟩
  clear ow1 gr1 bl1 ow2 bl2 hq
  go_wp2
  go_loopw [7, 16] (fun s i wr => ∃ (j : Nat) (a' : Option Addr) (k' c' : Nat), j ≤ m ∧ i = .int .i64 j ∧ s = .slice a' k' c' ∧ k' = 26 + 16 * j ∧ wr.ownsRow q 5 1 (.slice a' k' c') k' (u8s (hd ++ plsB (ps.take j))) ∧ Below q w wr) (fun _ i _ => m - (intOf i).toNat)
  case atStart => exact ⟨0, a2, 26, c2, Nat.zero_le _, rfl, rfl, rfl, H2.out.1, H2.out.2⟩
  case round =>
    obtain ⟨i, a', k', c', hi, rfl, rfl, hk', ow, bl⟩ := hrel
    rcases Nat.lt_or_ge i m with hlt | hge
    · obtain ⟨x, hx⟩ : ∃ x, ps[i]? = some x := ⟨ps[i]'(by have := H.out.2.2.1.1; omega), by simp⟩
      have hxf := H.out.2.2.2.1 x (List.mem_of_getElem? hx)
      obtain ⟨b', off, hA, hc⟩ := (H.out.2.2.1.below (by rw [← H.out.2.2.2.2.1]; exact bl)).2.2.2.resolve_left (by omega)
      subst hA
      have d0 : wr.cell? ⟨b', off + i * 4, none⟩ = some (.int .u32 x.1.1) := hc i x hx 0 _ rfl
      have d1 : wr.cell? ⟨b', off + i * 4 + 1, none⟩ = some (.int .u64 x.1.2) := hc i x hx 1 _ rfl
      have d2 : wr.cell? ⟨b', off + i * 4 + 2, none⟩ = some (.int .i64 x.2.1) := hc i x hx 2 _ rfl
      have d3 : wr.cell? ⟨b', off + i * 4 + 3, none⟩ = some (.int .i64 x.2.2) := hc i x hx 3 _ rfl
      have hqw : q ≤ wr.heap.size := by have := bl.size; rw [← H.out.2.2.2.2.1] at this; exact this
      obtain ⟨qi, hqi⟩ : ∃ qi, qi = wr.heap.size := ⟨_, rfl⟩
      have kb : Blk (wr.alloc (.cells #[.int .u32 x.1.1, .int .u64 x.1.2, .int .i64 x.2.1, .int .i64 x.2.2] 83)) qi (plL x) 83 := Blk.new' hqi.symm rfl
      have ow7 := ow.alloc (.cells #[.int .u32 x.1.1, .int .u64 x.1.2, .int .i64 x.2.1, .int .i64 x.2.2] 83)
      have bl7 := bl.alloc hqw (.cells #[.int .u32 x.1.1, .int .u64 x.1.2, .int .i64 x.2.1, .int .i64 x.2.2] 83)
      have hi' : (i : Int) < m := by omega
      have hwi : IntKind.i64.wrap ((i : Int) + 1) = (i : Int) + 1 := by rw [IntKind.wrap_i64]; omega
      have HX : Hid (ps[i]? = some x ∧ Fit2 x ∧ k' = 26 + 16 * i ∧ q ≤ wr.heap.size) := ⟨hx, hxf, hk', hqw⟩
      clear hx hxf hc ow bl hk' hqw
      go_upto_region 5 with fail
      rw [← hqi]
      clear d0 d1 d2 d3
      have hsz7 : (wr.alloc (.cells #[.int .u32 x.1.1, .int .u64 x.1.2, .int .i64 x.2.1, .int .i64 x.2.2] 83)).heap.size = qi + 1 := by simp [hqi]
      generalize World.alloc wr _ = W7 at kb ow7 bl7 hsz7 ⊢
      have H7 : Hid (W7.ownsRow q 5 1 (.slice a' k' c') k' (u8s (hd ++ plsB (ps.take i))) ∧ Below q w W7 ∧ Blk W7 qi (plL x) 83 ∧ q ≤ W7.heap.size) := ⟨ow7, bl7, kb, by have := HX.out.2.2.2; omega⟩
      have c0 : W7.cell? ⟨qi, 0, none⟩ = some (.int .u32 x.1.1) := kb.cell 0
      have c1 : W7.cell? ⟨qi, 1, none⟩ = some (.int .u64 x.1.2) := kb.cell 1
      have c2' : W7.cell? ⟨qi, 2, none⟩ = some (.int .i64 x.2.1) := kb.cell 2
      have c3 : W7.cell? ⟨qi, 3, none⟩ = some (.int .i64 x.2.2) := kb.cell 3
      have g0 : ∀ o, (W7.alloc o).cell? ⟨qi, 0, none⟩ = some (.int .u32 x.1.1) := fun o => (kb.alloc o).cell 0
      have g1 : ∀ o, (W7.alloc o).cell? ⟨qi, 1, none⟩ = some (.int .u64 x.1.2) := fun o => (kb.alloc o).cell 1
      have g2 : ∀ o, (W7.alloc o).cell? ⟨qi, 2, none⟩ = some (.int .i64 x.2.1) := fun o => (kb.alloc o).cell 2
      have g3 : ∀ o, (W7.alloc o).cell? ⟨qi, 3, none⟩ = some (.int .i64 x.2.2) := fun o => (kb.alloc o).cell 3
      have i0 : ∀ o p, ((W7.alloc o).alloc p).cell? ⟨qi, 0, none⟩ = some (.int .u32 x.1.1) := fun o p => ((kb.alloc o).alloc p).cell 0
      have i1 : ∀ o p, ((W7.alloc o).alloc p).cell? ⟨qi, 1, none⟩ = some (.int .u64 x.1.2) := fun o p => ((kb.alloc o).alloc p).cell 1
      have i2 : ∀ o p, ((W7.alloc o).alloc p).cell? ⟨qi, 2, none⟩ = some (.int .i64 x.2.1) := fun o p => ((kb.alloc o).alloc p).cell 2
      have i3 : ∀ o p, ((W7.alloc o).alloc p).cell? ⟨qi, 3, none⟩ = some (.int .i64 x.2.2) := fun o p => ((kb.alloc o).alloc p).cell 3
      obtain ⟨u0, u2, u3⟩ : IntKind.u64.wrap x.1.1 = x.1.1 ∧ IntKind.u64.wrap x.2.1 = x.2.1 ∧ IntKind.u64.wrap x.2.2 = x.2.2 := by
        obtain ⟨⟨f0, _⟩, f2, f3⟩ := HX.out.2.1
        unfold Fits32 at f0
        unfold Fits16 at f2 f3
        simp only [IntKind.wrap_u64]
        omega
      have HL : Hid (∀ (X : World) (g : Nat), X.heap.size = g → NIn .u64 (X.alloc (.cells #[.int .u64 x.1.1, .int .u64 x.1.2, .int .u64 x.2.1, .int .u64 x.2.2] 24)) (some ⟨g, 0, none⟩) 4 (plV x)) := lit_pl HX.out.2.1
      have HA : Hid (∀ X, Below W7.heap.size W7 X → ∀ a8 k8 c8, k8 = (packL plW (plV x)).length → X.ownsRow W7.heap.size 5 1 (.slice a8 k8 c8) k8 (u8s (packL plW (plV x))) → ∃ a9 c9 w9, (Builtin.append_ #[39, 39] 39 #[.slice a' k' c', .slice a8 k8 c8]).run Try.prog X = .ok (.slice a9 (k' + k8) c9) w9 ∧ w9.ownsRow q 5 1 (.slice a9 (k' + k8) c9) (k' + k8) (u8s ((hd ++ plsB (ps.take i)) ++ packL plW (plV x))) ∧ Below q w w9 ∧ Blk w9 qi (plL x) 83) := by
        intro X hX a8 k8 c8 h8 o8
        have hlen : (packL plW (plV x)).length = 16 := plB_length x
        have oX := own_belowN H7.out.1 hX (Nat.le_refl _)
        have hqX : q ≤ X.heap.size := Nat.le_trans H7.out.2.2.2 hX.size
        obtain ⟨a9, c9, w9, e1, e2, e3, e4⟩ := app_bytes oX (own_bin o8 (by rw [h8, hlen]; unfold maxLen; omega) (packL_fits _ _)) (own_nil o8) (by have := HX.out.2.2.1; omega) hqX
        exact ⟨a9, c9, w9, e1, e2, (H7.out.2.1.trans (hX.mono H7.out.2.2.2)).trans e3, (H7.out.2.2.1.below hX H7.out.2.2.1.lt).grown (by decide) oX e4⟩
      clear kb ow7 bl7 hsz7 hqi
      go_region_held3 (fun X => X.cell? ⟨qi, 0, none⟩ = some (.int .u32 x.1.1) ∧ X.cell? ⟨qi, 1, none⟩ = some (.int .u64 x.1.2) ∧ X.cell? ⟨qi, 2, none⟩ = some (.int .i64 x.2.1) ∧ X.cell? ⟨qi, 3, none⟩ = some (.int .i64 x.2.2)) (first | exact ⟨c0, c1, c2', c3⟩ | exact ⟨g0 _, g1 _, g2 _, g3 _⟩ | exact ⟨i0 _ _, i1 _ _, i2 _ _, i3 _ _⟩ | exact ⟨m0, m1, m2, m3⟩ | exact ⟨n0, n1, n2, n3⟩)
        (first
        | (go_simp; go_at_call 73; refine (kplaceW_of _).mono ?_; rintro e W1 ⟨rfl, rfl⟩)
        | (go_simp; go_at_call 66; refine (kpack_two (ws := plW) (vs := plV x) rfl (by first | exact (nin_pl rfl).alloc _ | exact nin_pl (by simp)) (by first | exact HL.out _ _ (by simp) | exact (HL.out _ _ rfl).alloc _) (by omega) (by omega)).mono ?_; rintro e w8 ⟨a8, k8, c8, rfl, h8, o8, b8⟩; have kb8 := H7.out.2.2.1.below b8 H7.out.2.2.1.lt; have m0 : w8.cell? ⟨qi, 0, none⟩ = some (.int .u32 x.1.1) := kb8.cell 0; have m1 : w8.cell? ⟨qi, 1, none⟩ = some (.int .u64 x.1.2) := kb8.cell 1; have m2 : w8.cell? ⟨qi, 2, none⟩ = some (.int .i64 x.2.1) := kb8.cell 2; have m3 : w8.cell? ⟨qi, 3, none⟩ = some (.int .i64 x.2.2) := kb8.cell 3; obtain ⟨a9, c9, w9, e9, o9, b9, kb9⟩ := HA.out w8 b8 a8 k8 c8 h8 o8; have hh8 : Hid (k8 = (packL plW (plV x)).length) := h8; clear h8; have n0 : w9.cell? ⟨qi, 0, none⟩ = some (.int .u32 x.1.1) := kb9.cell 0; have n1 : w9.cell? ⟨qi, 1, none⟩ = some (.int .u64 x.1.2) := kb9.cell 1; have n2 : w9.cell? ⟨qi, 2, none⟩ = some (.int .i64 x.2.1) := kb9.cell 2; have n3 : w9.cell? ⟨qi, 3, none⟩ = some (.int .i64 x.2.2) := kb9.cell 3)
        | (refine cstep_append_run rfl (.tmp 20) (.tmp 36) 39 39 rfl _ _ rfl rfl _ _ e9 ?_))
      all_goals (
        have H9 : Hid (w9.ownsRow q 5 1 (.slice a9 (k' + k8) c9) (k' + k8) (u8s (hd ++ plsB (ps.take (i + 1)))) ∧ Below q w w9 ∧ k' + k8 = 26 + 16 * (i + 1)) := by
          refine ⟨?_, b9, ?_⟩
          · rw [plsB_next HX.out.1, ← List.append_assoc]; exact o9
          · have hlen : (packL plW (plV x)).length = 16 := plB_length x
            rw [hh8.out, hlen, HX.out.2.2.1]; omega
        clear o9 b9 e9 o8 b8 kb8 kb9 m0 m1 m2 m3 n0 n1 n2 n3 c0 c1 c2' c3 g0 g1 g2 g3 i0 i1 i2 i3 u0 u2 u3 HL HA
        go_wp2
        go_roundw
        case rel => exact ⟨i + 1, a9, k' + k8, c9, by omega, by simp, by simp, H9.out.2.2, H9.out.1, H9.out.2.1⟩
        case measure => simp [intOf]; omega)
    · obtain rfl : i = m := by omega
      obtain ⟨Z, hZ⟩ : ∃ Z : Nat, Z = N - 1 - (26 + 16 * i) := ⟨_, rfl⟩
      have hw1 : IntKind.i64.wrap ((N : Int) - 1) = (N : Int) - 1 := by have := HN.out; rw [IntKind.wrap_i64]; omega
      have hw2 : IntKind.i64.wrap ((N : Int) - 1 - (k' : Int)) = (Z : Int) := by have := HN.out; rw [IntKind.wrap_i64]; omega
      have hqw : q ≤ wr.heap.size := by have := bl.size; rw [← H.out.2.2.2.2.1] at this; exact this
      have htk : ps.take i = ps := List.take_of_length_le (by rw [H.out.2.2.1.1]; exact Nat.le_refl _)
      rw [htk] at ow
      have HE : Hid (wr.ownsRow q 5 1 (.slice a' k' c') k' (u8s (hd ++ plsB ps)) ∧ Below q w wr ∧ k' = 26 + 16 * i ∧ Z = N - 1 - (26 + 16 * i) ∧ q ≤ wr.heap.size) := ⟨ow, bl, hk', hZ, hqw⟩
      clear ow bl hk' hZ htk hqw
      go_upto_region 8 with (at_builtin; refine wpList_append_zeros rfl (.tmp 39) (.tmp 44) rfl q a' k' c' (hd ++ plsB ps) rfl HE.out.1 Z rfl (by have := HE.out; have := HN.out; omega) (by have := HE.out; have := HN.out; omega) HE.out.2.2.2.2 ?_; intro a3 c3 w3 ow3 bl3)
      have H3 : Hid (w3.ownsRow q 5 1 (.slice a3 (k' + Z) c3) (k' + Z) (u8s (hd ++ plsB ps ++ List.replicate Z 0)) ∧ Below q w w3 ∧ q ≤ w3.heap.size) := ⟨ow3, HE.out.2.1.trans bl3, Nat.le_trans HE.out.2.2.2.2 bl3.size⟩
      clear ow3 bl3 hw1 hw2
      go_upto_region 9 with (at_builtin; refine wpList_append_bin rfl (.tmp 46) (.tmp 47) rfl q a3 (k' + Z) c3 (hd ++ plsB ps ++ List.replicate Z 0) rfl (H3.out.1.alloc _) (some ⟨w3.heap.size, 0, none⟩) 1 1 [231] rfl (new_bin rfl rfl rfl (by intro z hz; simp only [List.mem_cons, List.not_mem_nil, or_false] at hz; subst hz; unfold Fits8; omega) (by unfold maxLen; omega)) (fun h => by cases h) (by have := HE.out; have := HN.out; omega) (by have := H3.out.2.2; simp; omega) ?_; intro a4 c4 w4 ow4 bl4)
      have bw4 : Below q w w4 := (H3.out.2.1.alloc H3.out.2.2 _).trans bl4
      clear bl4
      obtain ⟨L, hL⟩ : ∃ L, L = hd ++ plsB ps ++ List.replicate Z 0 ++ [231] := ⟨_, rfl⟩
      rw [← hL] at ow4
      generalize hM : k' + Z + 1 = M at ow4 ⊢
      have hMN : M = N := by have := HE.out; have := HN.out; omega
      clear hM
      subst hMN
      have hLl : L.length = M := by have := ow4.1; rw [u8s_length] at this; omega
      rcases ow4.2 with ⟨hv, hn0⟩ | ⟨g, cap, cur, hv, hB, hg, hnc, hcm, hcs, htake⟩
      · exact absurd hn0 (by have := HN.out; omega)
      · cases hv
        have hLf : ∀ z ∈ L, Fits8 z := by
          intro z hz
          rw [hL] at hz
          simp only [List.mem_append, List.mem_replicate, List.mem_singleton] at hz
          rcases hz with ((h | h) | ⟨_, h⟩) | h
          · exact H.out.1.2.2.1 z h
          · exact plsB_fits _ z h
          · subst h; unfold Fits8; omega
          · subst h; unfold Fits8; omega
        have hBI : BIn w4 (some ⟨g, 0, none⟩) M L := own_bin ow4 (by omega) hLf
        have hsl : ∀ w : World, (Instr.slice 39 (.slice (some ⟨g, 0, none⟩) M c4) (some (.int .i64 4)) none none).run Try.prog w = .ok (.slice (some ⟨g, 4, none⟩) (M - 4) (c4 - 4)) w := fun w => by
          have := slice_back Try.underlying39 Try.one_bytes (some ⟨g, 0, none⟩) M c4 4 (by have := HN.out; omega) w
          rw [if_neg (by have := HN.out; omega)] at this
          simpa [Addr.add_mid] using this
        have hcr := crI_fits fits0 hLf
        obtain ⟨K, hK⟩ : ∃ K, K = crI 0 L := ⟨_, rfl⟩
        rw [← hK] at hcr
        have hKw : IntKind.u64.wrap K = K := by have := hcr.1; have := hcr.2; rw [IntKind.wrap_u64]; omega
        have HC : Hid (∀ X, Below w4.heap.size w4 X → ∀ a8 k8 c8, k8 = (packL [4] [K]).length → X.ownsRow w4.heap.size 5 1 (.slice a8 k8 c8) k8 (u8s (packL [4] [K])) → ∃ w9, (Builtin.copy_ #[39, 39] 3 #[.slice (some ⟨g, 4, none⟩) (M - 4) (c4 - 4), .slice a8 k8 c8]).run Try.prog X = .ok (.int .i64 4) w9 ∧ w9.ownsRow q 5 1 (.slice (some ⟨g, 0, none⟩) M c4) M (u8s (joinL L)) ∧ Below q w w9) := by
          intro X hX a8 k8 c8 h8 o8
          have hgX : X.heap[g]? = some (.cells cur 5 (0, 0)) := (hX.block g (Array.getElem?_eq_some_iff.1 hg).1).trans hg
          have hp4 : packL [4] [K] = bigI 4 K := pack4 K
          rw [hp4] at h8 o8
          rw [bigI_length] at h8
          subst h8
          obtain ⟨b8, off8, ha8, hc8⟩ := (own_bin o8 (by unfold maxLen; omega) (bigI_fits _ _)).2.2.2.resolve_left (by omega)
          have hM28 := HN.out
          have hcs' : cur.size = c4 := by simpa using hcs
          have hrun := run_copy_row (P := Try.prog) X 39 39 3 5 g 4 (M - 4) (c4 - 4) ⟨b8, off8, none⟩ 4 c8 cur 5 (u8s (bigI 4 K)) Try.underlying39 Try.byte1 hgX (by rw [u8s_length, bigI_length]; show 4 = min 4 (M - 4); omega) (fun j v hj => by
            have hjl : j < 4 := by have := (List.getElem?_eq_some_iff.1 hj).1; rwa [u8s_length, bigI_length] at this
            rw [Addr.add_mid, hc8 j hjl, ← hj]
            simp [u8s, List.getD, bigI_length, hjl]) (by rw [u8s_length, bigI_length]; omega) (u8s_one _)
          rw [ha8]
          rw [u8s_length, bigI_length] at hrun
          refine ⟨_, hrun, ?_, ?_⟩
          · rw [← join_splice, ← hK]
            refine own_splice (cur := cur) (W := X) hB (by omega) hcm hcs' (by simpa using htake) hLl (by rw [bigI_length]; omega) ?_
            have := setRow_heap X g cur (cur.toList.take 4 ++ u8s (bigI 4 K) ++ cur.toList.drop (4 + 4)).toArray 5 (0, 0) hgX
            unfold splice
            rw [u8s_length, bigI_length, ← List.append_assoc]
            exact this
          · exact below_setRow (bw4.trans (hX.mono (by have := (Array.getElem?_eq_some_iff.1 hg).1; omega))) hB _
        have HB : Hid (∀ X, Below w4.heap.size w4 X → BIn X (some ⟨g, 0, none⟩) M L) := fun X hX => hBI.below hX
        have HK : Hid (K = crI 0 L ∧ Fits32 K ∧ L = hd ++ plsB ps ++ List.replicate Z 0 ++ [231] ∧ Z = M - 1 - (26 + 16 * i)) := ⟨hK, hcr, hL, HE.out.2.2.2.1⟩
        clear hB hg hnc hcm hcs htake hLf hBI hcr hK hL bw4 ow4 hLl
        have hB0 : Hid (∀ X, X = w4.drew ∨ (∃ o, X = (w4.alloc o).drew) ∨ (∃ o o', X = ((w4.alloc o).alloc o').drew) → Below w4.heap.size w4 X) := by
          rintro X (rfl | ⟨o, rfl⟩ | ⟨o, o', rfl⟩)
          · exact (Below.refl _ _).drew
          · exact ((Below.refl _ _).alloc (Nat.le_refl _) _).drew
          · exact (((Below.refl _ _).alloc (Nat.le_refl _) _).alloc (by simp) _).drew
        have HF : Hid (∀ (X : World) (g : Nat), X.heap.size = g → NIn .u64 (X.alloc (.cells #[.int .u64 K] 24)) (some ⟨g, 0, none⟩) 1 [K]) := lit_one (by have := HK.out.2.1; unfold Fits32 at this; unfold FitsU; omega)
        go_region_held3 (fun _ => True) (exact trivial)
          (first
          | (go_simp; go_at_call 83; refine (crcSum_of _ (some ⟨g, 0, none⟩) M c4 1 L _ (by first | exact (Blk.new' (L := [.slice (some ⟨g, 0, none⟩) M c4]) rfl rfl).cell 0 | exact (Blk.new' (L := [.slice (some ⟨g, 0, none⟩) M c4]) (by simp) rfl).cell 0 | exact ((Blk.new' (L := [.slice (some ⟨g, 0, none⟩) M c4]) rfl rfl).alloc _).cell 0) (HB.out _ (hB0.out _ (by first | exact .inr (.inl ⟨_, rfl⟩) | exact .inr (.inr ⟨_, _, rfl⟩))))).mono ?_; rintro e W5 ⟨rfl, hw5⟩; replace hw5 := hw5.symm; subst hw5; rw [← HK.out.1])
          | (go_simp; go_at_call 66; refine (kpack_three (ws := [4]) (vs := [K]) rfl (by first | exact ((nin_4 rfl).alloc _).alloc _ | exact (nin_4 (by simp)).alloc _ | exact nin_4 (by simp)) (by first | exact HF.out _ _ (by simp) | exact (HF.out _ _ (by simp)).alloc _) (by omega) (by omega)).mono ?_; rintro e w8 ⟨a8, k8, c8, rfl, h8, o8, b8⟩; obtain ⟨w9, e9, o9, b9⟩ := HC.out w8 b8 a8 k8 c8 h8 o8; clear h8 o8 b8))
        all_goals (
          have H9 : Hid (w9.ownsRow q 5 1 (.slice (some ⟨g, 0, none⟩) M c4) M (u8s (joinL L)) ∧ Below q w w9) := ⟨o9, b9⟩
          clear o9 b9 e9 HC HB hB0 hsl hKw HF
          go_wp2
          go_ret
          refine ⟨g, c4, rfl, ?_, H9.out.2⟩
          rw [← HK.out.2.2.2, ← HK.out.2.2.1]
          exact H9.out.1)
end Go.Proofs.Yteokhkoaieibmaa
