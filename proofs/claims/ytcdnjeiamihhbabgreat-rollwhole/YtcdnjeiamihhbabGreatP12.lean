/- P12 -/
import Derived.Lib.QuietBelow
import Derived.Lib.AppendZerosOnto
import Derived.Test.YtcdnjeiamihhbabGreatP11
set_option linter.unusedVariables false
set_option maxRecDepth 4000
namespace Go.Proofs.YtcdnjeiamihhbabGreat
open Go.RowKit
def CheckE (w : World) (s : Sh) (ps : List Pl) (e : Ending) (w' : World) : Prop :=
 Below w.heap.size w w' ∧ ((¬ GoodK s ps ∧ e = diedE noBk) ∨ (GoodK s ps ∧ e = .returned (.tuple #[])))
/-- The first i places are right. -/
def Upto (s : Sh) (ps : List Pl) (i : Nat) : Prop := (∀ k p q, k + 1 < i → ps[k]? = some p → ps[k + 1]? = some q → ltP p.1 q.1 = true) ∧ ∀ k p, k < i → ps[k]? = some p → InSh s p
theorem Upto.next {s : Sh} {ps : List Pl} {i : Nat} {p : Pl} (h : Upto s ps i) (hp : ps[i]? = some p) (h1 : InSh s p) (h2 : ∀ o, 0 < i → ps[i - 1]? = some o → ltP o.1 p.1 = true) : Upto s ps (i + 1) := by
 refine ⟨fun k x y hk hx hy => ?_, fun k x hk hx => ?_⟩
 ·rcases Nat.lt_or_ge (k + 1) i with h' | h'
  ·exact h.1 k x y h' hx hy
  ·obtain rfl : i = k + 1 := by omega
   rw [hp] at hy; cases hy
   exact h2 x (by omega) (by simpa using hx)
 ·rcases Nat.lt_or_ge k i with h' | h'
  ·exact h.2 k x h' hx
  ·obtain rfl : k = i := by omega
   rw [hp] at hx; cases hx
   exact h1
theorem Upto.all {s : Sh} {ps : List Pl} (hr : RightS s) (h : Upto s ps ps.length) : GoodK s ps := by
 refine ⟨hr, fun i p q hp hq => h.1 i p q (List.getElem?_eq_some_iff.1 hq).1 hp hq, fun p hp => ?_⟩
 obtain ⟨k, hk⟩ := List.getElem?_of_mem hp
 exact h.2 k p (List.getElem?_eq_some_iff.1 hk).1 hk
theorem wpQuiet_eq {P : Program} {ops : Array Oper} {C : World → Prop} {Q : Act → Prop} {o : Oper} {rest : List Oper} {a : Act} : wpQuiet P ops C Q (o :: rest) a = if Region.wanted o (yielded ops a.tmps) = true then o.quiet P a C (wpQuiet P ops C Q rest) else wpQuiet P ops C Q rest (a.put o.dst undef) := rfl
set_option maxHeartbeats 4000000 in
theorem kcheck_of (s : Sh) (A : Option Addr) (n C : Nat) (ps : List Pl) (w : World) (hz : -9223372036854775808 ≤ s.z) (hk : KIn w A n ps) :
  Calls Tryz.prog 101 #[.agg (shL s).toArray, .slice A n C] w (CheckE w s ps) := by
 obtain ⟨q, hq⟩ : ∃ q, q = w.heap.size := ⟨_, rfl⟩
 have H : Hid (KIn w A n ps ∧ q = w.heap.size) := ⟨hk, hq⟩
 have hm : n ≤ 9223372036854775807 := by have := hk.2.1; unfold maxLen at this; omega
 have hb : Blk (w.alloc (.cells #[.int .i64 s.z, .int .i64 s.zb, .int .i64 s.b, .int .i64 s.r] 23)) q (shL s) 23 := Blk.new' hq.symm rfl
 have hbel : Below w.heap.size w (w.alloc (.cells #[.int .i64 s.z, .int .i64 s.zb, .int .i64 s.b, .int .i64 s.r] 23)) := (Below.refl _ _).alloc (Nat.le_refl _) _
 simp only [shL]
 go_enter Tryz.func101, Tryz.ntmps101
 go_upto_region 1 with fail
 rw [← hq]
 generalize hW1 : World.alloc _ _ = W1 at *
 have HR : Hid (Calls Tryz.prog 60 #[.agg #[.int .i64 s.z, .int .i64 s.zb, .int .i64 s.b, .int .i64 s.r]] W1 fun e w' => e = .returned (.bool (decide (RightS s))) ∧ Below W1.heap.size W1 w') := right_of s W1 hz
 have e0 : W1.cell? ⟨q, 0, none⟩ = some (.int .i64 s.z) := hb.cell 0
 have e1 : W1.cell? ⟨q, 1, none⟩ = some (.int .i64 s.zb) := hb.cell 1
 have e2 : W1.cell? ⟨q, 2, none⟩ = some (.int .i64 s.b) := hb.cell 2
 have e3 : W1.cell? ⟨q, 3, none⟩ = some (.int .i64 s.r) := hb.cell 3
 have HB : Hid (Below w.heap.size w W1 ∧ Blk W1 q (shL s) 23) := ⟨hbel, hb⟩
 clear hW1 hb hbel hq hk
 by_cases hr : RightS s
 ·have HS : Hid (RightS s) := hr
  rw [decide_eq_true hr] at HR
  clear hr
  go_wp2_with (go_at_call 60; refine HR.out.mono ?_; rintro e w1 ⟨rfl, b1⟩)
  have HB1 : Hid (Below w.heap.size w w1 ∧ Blk w1 q (shL s) 23) := ⟨HB.out.1.trans (b1.mono HB.out.1.size), HB.out.2.below b1 HB.out.2.lt⟩
  clear b1 e0 e1 e2 e3
  go_loopw [12] (fun x wr => ∃ i : Nat, x = .int .i64 i ∧ i ≤ n ∧ Below w.heap.size w wr ∧ Blk wr q (shL s) 23 ∧ Upto s ps i) (fun x _ => n - (intOf x).toNat)
  case atStart => exact ⟨0, rfl, Nat.zero_le _, HB1.out.1, HB1.out.2, ⟨fun k p q h => by omega, fun k p h => by omega⟩⟩
  case round =>
   obtain ⟨i, rfl, hi, bl, hsh, hup⟩ := hrel
   rcases Nat.lt_or_ge i n with hlt | hge
   ·obtain ⟨x, hx⟩ : ∃ x, ps[i]? = some x := ⟨ps[i]'(by have := H.out.1.1; omega), by simp⟩
    obtain ⟨b', off, hA, hc⟩ := (H.out.1.below bl).2.2.2.resolve_left (by omega)
    subst hA
    have d0 : wr.cell? ⟨b', off + i * 4, none⟩ = some (.int .u32 x.1.1) := hc i x hx 0 _ rfl
    have d1 : wr.cell? ⟨b', off + i * 4 + 1, none⟩ = some (.int .u64 x.1.2) := hc i x hx 1 _ rfl
    have d2 : wr.cell? ⟨b', off + i * 4 + 2, none⟩ = some (.int .i64 x.2.1) := hc i x hx 2 _ rfl
    have d3 : wr.cell? ⟨b', off + i * 4 + 3, none⟩ = some (.int .i64 x.2.2) := hc i x hx 3 _ rfl
    obtain ⟨qi, hqi⟩ : ∃ qi, qi = wr.heap.size := ⟨_, rfl⟩
    have kb : Blk (wr.alloc (.cells #[.int .u32 x.1.1, .int .u64 x.1.2, .int .i64 x.2.1, .int .i64 x.2.2] 131)) qi (plL x) 131 := Blk.new' hqi.symm rfl
    have hsh7 := hsh.alloc (.cells #[.int .u32 x.1.1, .int .u64 x.1.2, .int .i64 x.2.1, .int .i64 x.2.2] 131)
    have bl7 := bl.alloc bl.size (.cells #[.int .u32 x.1.1, .int .u64 x.1.2, .int .i64 x.2.1, .int .i64 x.2.2] 131)
    have bl7' := bl7
    have hi' : (i : Int) < n := by omega
    have hwi : IntKind.i64.wrap ((i : Int) + 1) = (i : Int) + 1 := by rw [IntKind.wrap_i64]; omega
    have hwm : IntKind.i64.wrap ((i : Int) - 1) = (i : Int) - 1 := by rw [IntKind.wrap_i64]; omega
    have HX : Hid (ps[i]? = some x ∧ Upto s ps i) := ⟨hx, hup⟩
    clear hup hx
    go_upto_region 6 with fail
    rw [← hqi]
    clear hqi d0 d1 d2 d3
    have hA7 := (H.out.1.below bl7').2.2.2.resolve_left (by omega)
    generalize hW7 : World.alloc wr _ = W7 at kb hsh7 bl7 bl7' hA7 ⊢
    clear hW7
    have k0 : W7.cell? ⟨qi, 0, none⟩ = some (.int .u32 x.1.1) := kb.cell 0
    have k1 : W7.cell? ⟨qi, 1, none⟩ = some (.int .u64 x.1.2) := kb.cell 1
    have k2 : W7.cell? ⟨qi, 2, none⟩ = some (.int .i64 x.2.1) := kb.cell 2
    have k3 : W7.cell? ⟨qi, 3, none⟩ = some (.int .i64 x.2.2) := kb.cell 3
    have g0 : W7.cell? ⟨q, 0, none⟩ = some (.int .i64 s.z) := hsh7.cell 0
    have g1 : W7.cell? ⟨q, 1, none⟩ = some (.int .i64 s.zb) := hsh7.cell 1
    have g2 : W7.cell? ⟨q, 2, none⟩ = some (.int .i64 s.b) := hsh7.cell 2
    have g3 : W7.cell? ⟨q, 3, none⟩ = some (.int .i64 s.r) := hsh7.cell 3
    have hIc : ∀ X : World, Calls Tryz.prog 156 #[.agg #[.int .i64 s.z, .int .i64 s.zb, .int .i64 s.b, .int .i64 s.r], .agg #[.int .i64 x.2.1, .int .i64 x.2.2]] X fun e w' => e = .returned (.bool (decide (2 ≤ x.2.1 ∧ x.2.1 < s.z ∧ 0 ≤ x.2.2 ∧ x.2.2 < s.zb))) ∧ Below X.heap.size X w' := kinLog_of s x.2.1 x.2.2
    have H7 : Hid (Below w.heap.size w W7 ∧ Blk W7 q (shL s) 23 ∧ Blk W7 qi (plL x) 131) := ⟨bl7, hsh7, kb⟩
    have r0 := fun d os => cell_regrown k0 d os
    have r1 := fun d os => cell_regrown k1 d os
    have r2 := fun d os => cell_regrown k2 d os
    have r3 := fun d os => cell_regrown k3 d os
    have t0 := fun d os => cell_regrown g0 d os
    have t1 := fun d os => cell_regrown g1 d os
    have t2 := fun d os => cell_regrown g2 d os
    have t3 := fun d os => cell_regrown g3 d os
    clear kb hsh7 bl7 bl7' hA7 bl hsh hc k0 k1 k2 k3 g0 g1 g2 g3
    by_cases hin : InSh s x
    ·have hin' : 2 ≤ x.2.1 ∧ x.2.1 < s.z ∧ 0 ≤ x.2.2 ∧ x.2.2 < s.zb := hin
     rw [decide_eq_true hin'] at hIc
     have cI := fun d os => Calls.regrown_of (hIc (Go.Sort.grow (redrawn W7 d) os))
     have HIN : Hid (InSh s x) := hin
     clear hin hin' hIc
     rcases Nat.eq_zero_or_pos i with h0 | h0
     ·have z1 : decide ((0 : Int) < (i : Int)) = false := by simp; omega
      have z2 : decide (0 < i) = false := by simp; omega
      have HZ : Hid (i = 0) := h0
      clear h0
      refine wp_region_quiet_below (by kernel_rfl) (by kernel_rfl) ?_
      iterate 3 (quiet_step (fail))
      quiet_step (exact cI _ _)
      iterate 5 (quiet_step (fail))
      iterate 8 (rw [wpQuiet_eq]; go_simp)
      iterate 2 (quiet_step (fail))
      refine wpQuiet_nil ?_
      rintro ⟨dq, osq⟩
      dsimp only
      have bR := H7.out.1.trans ((below_regrown W7 dq osq).mono H7.out.1.size)
      have sR := H7.out.2.1.below (below_regrown W7 dq osq) H7.out.2.1.lt
      have HN : Hid (Below w.heap.size w (Go.Sort.grow (redrawn W7 dq) osq) ∧ Blk (Go.Sort.grow (redrawn W7 dq) osq) q (shL s) 23 ∧ Upto s ps (i + 1)) := ⟨bR, sR, HX.out.2.next HX.out.1 HIN.out (fun _ h => absurd HZ.out (by omega))⟩
      clear bR sR r0 r1 r2 r3 t0 t1 t2 t3 cI
      generalize Go.Sort.grow _ _ = V at HN ⊢
      go_wp2
      go_roundw
      case rel => exact ⟨i + 1, by simp, by omega, HN.out.1, HN.out.2.1, HN.out.2.2⟩
      case measure => simp [intOf]; omega
     ·obtain ⟨j, hj⟩ : ∃ j, i = j + 1 := ⟨i - 1, by omega⟩
      have hpos : (0 : Int) < i := by omega
      have hwj : IntKind.i64.wrap ((i : Int) - 1) = (j : Int) := by rw [IntKind.wrap_i64]; omega
      have hjn : (j : Int) < n := by omega
      obtain ⟨o, ho⟩ : ∃ o, ps[j]? = some o := ⟨ps[j]'(by have := H.out.1.1; omega), by simp⟩
      have HO : Hid (ps[j]? = some o ∧ i = j + 1) := ⟨ho, hj⟩
      obtain ⟨b2, off2, hA2, hc2⟩ := (H.out.1.below H7.out.1).2.2.2.resolve_left (by omega)
      cases hA2
      have p0 := fun d os => cell_regrown (show W7.cell? ⟨b', off + j * 4, none⟩ = some (.int .u32 o.1.1) from hc2 j o ho 0 _ rfl) d os
      have p1 := fun d os => cell_regrown (show W7.cell? ⟨b', off + j * 4 + 1, none⟩ = some (.int .u64 o.1.2) from hc2 j o ho 1 _ rfl) d os
      have p2 := fun d os => cell_regrown (show W7.cell? ⟨b', off + j * 4 + 2, none⟩ = some (.int .i64 o.2.1) from hc2 j o ho 2 _ rfl) d os
      have p3 := fun d os => cell_regrown (show W7.cell? ⟨b', off + j * 4 + 3, none⟩ = some (.int .i64 o.2.2) from hc2 j o ho 3 _ rfl) d os
      clear hj ho hwm hc2
      have hRc : ∀ X : World, Calls Tryz.prog 157 #[.agg #[.int .u32 o.1.1, .int .u64 o.1.2, .int .i64 o.2.1, .int .i64 o.2.2], .agg #[.int .u32 x.1.1, .int .u64 x.1.2, .int .i64 x.2.1, .int .i64 x.2.2]] X fun e w' => e = .returned (.bool (ltP o.1 x.1)) ∧ Below X.heap.size X w' := krises_of o x
      by_cases hlr : ltP o.1 x.1 = true
      ·have HL : Hid (ltP o.1 x.1 = true) := hlr
       rw [hlr] at hRc
       have cR := fun d os => Calls.regrown_of (hRc (Go.Sort.grow (redrawn W7 d) os))
       clear hlr hRc
       refine wp_region_quiet_below (by kernel_rfl) (by kernel_rfl) ?_
       iterate 3 (quiet_step (fail))
       quiet_step (exact cI _ _)
       iterate 11 (quiet_step (fail))
       quiet_step (exact cR _ _)
       iterate 3 (quiet_step (fail))
       refine wpQuiet_nil ?_
       intro _ hw'
       obtain ⟨⟨dq, osq⟩, hw''⟩ := hw'
       subst hw''
       have bR := H7.out.1.trans ((below_regrown W7 dq osq).mono H7.out.1.size)
       have sR := H7.out.2.1.below (below_regrown W7 dq osq) H7.out.2.1.lt
       have HN : Hid (Below w.heap.size w (Go.Sort.grow (redrawn W7 dq) osq) ∧ Blk (Go.Sort.grow (redrawn W7 dq) osq) q (shL s) 23 ∧ Upto s ps (i + 1)) := ⟨bR, sR, HX.out.2.next HX.out.1 HIN.out (fun o' _ h => by rw [HO.out.2, Nat.add_sub_cancel, HO.out.1] at h; cases h; exact HL.out)⟩
       clear bR sR r0 r1 r2 r3 t0 t1 t2 t3 cI cR p0 p1 p2 p3
       generalize Go.Sort.grow _ _ = V at HN ⊢
       go_wp2
       go_roundw
       case rel => exact ⟨i + 1, by simp, by omega, HN.out.1, HN.out.2.1, HN.out.2.2⟩
       case measure => simp [intOf]; omega
      ·have hlr' : ltP o.1 x.1 = false := by simpa using hlr
       rw [hlr'] at hRc
       have cR := fun d os => Calls.regrown_of (hRc (Go.Sort.grow (redrawn W7 d) os))
       have HL : Hid (ltP o.1 x.1 = false) := hlr'
       clear hlr hlr' hRc
       refine wp_region_quiet_below (by kernel_rfl) (by kernel_rfl) ?_
       iterate 3 (quiet_step (fail))
       quiet_step (exact cI _ _)
       iterate 11 (quiet_step (fail))
       quiet_step (exact cR _ _)
       iterate 3 (quiet_step (fail))
       refine wpQuiet_nil ?_
       intro _ hw'
       obtain ⟨⟨dq, osq⟩, hw''⟩ := hw'
       subst hw''
       have bR := H7.out.1.trans ((below_regrown W7 dq osq).mono H7.out.1.size)
       have sR := H7.out.2.1.below (below_regrown W7 dq osq) H7.out.2.1.lt
       go_wp2
       refine ⟨rfl, bR, .inl ⟨fun h => ?_, rfl⟩⟩
       have := h.2.1 j o x HO.out.1 (by rw [← HO.out.2]; exact HX.out.1)
       rw [HL.out] at this
       cases this
    ·have hin' : ¬ (2 ≤ x.2.1 ∧ x.2.1 < s.z ∧ 0 ≤ x.2.2 ∧ x.2.2 < s.zb) := hin
     rw [decide_eq_false hin'] at hIc
     have cI := fun d os => Calls.regrown_of (hIc (Go.Sort.grow (redrawn W7 d) os))
     have HIN : Hid (¬ InSh s x) := hin
     clear hin hin' hIc
     refine wp_region_quiet_below (by kernel_rfl) (by kernel_rfl) ?_
     iterate 3 (quiet_step (fail))
     quiet_step (exact cI _ _)
     iterate 2 (quiet_step (fail))
     iterate 3 (rw [wpQuiet_eq]; go_simp)
     iterate 8 (rw [wpQuiet_eq]; go_simp; rw [if_neg (by intro h; cases h)])
     rw [wpQuiet_eq]
     go_simp
     iterate 1 (quiet_step (fail))
     refine wpQuiet_nil ?_
     rintro ⟨dq, osq⟩
     dsimp only
     have bR := H7.out.1.trans ((below_regrown W7 dq osq).mono H7.out.1.size)
     have sR := H7.out.2.1.below (below_regrown W7 dq osq) H7.out.2.1.lt
     go_wp2
     exact ⟨rfl, bR, .inl ⟨fun h => HIN.out (h.2.2 x (List.mem_of_getElem? HX.out.1)), rfl⟩⟩
   ·obtain rfl : i = n := by omega
    have HF : Hid (CheckE w s ps (.returned (.tuple #[])) wr) := ⟨bl, .inr ⟨by rw [← H.out.1.1] at hup; exact hup.all HS.out, rfl⟩⟩
    clear bl hsh hup
    go_wp2
    go_end0
    exact HF.out
 ·have HS : Hid (¬ RightS s) := hr
  rw [decide_eq_false hr] at HR
  clear hr
  go_wp2_with (go_at_call 60; refine HR.out.mono ?_; rintro e w1 ⟨rfl, b1⟩)
  exact ⟨rfl, HB.out.1.trans (b1.mono HB.out.1.size), .inl ⟨fun h => HS.out h.1, rfl⟩⟩
theorem zeroCells_one (z : Value) (k : Nat) : Builtin.zeroCells #[z] k = (List.replicate k z).toArray := by
 apply Array.ext'
 apply List.ext_getElem
 ·simp [Builtin.zeroCells]
 ·intro i h1 h2
  simp [Builtin.zeroCells, Nat.mod_one]
theorem run_append_room_zeros {P : Program} (w : World) (t tn ty e : TypeId) (i : TypeInfo) (kq kn : IntKind) (ht : P.underlying t = some (.slice e)) (htn : P.underlying tn = some (.int kn)) (hi : P.info? e = some i) (hz : i.zero = some (.int .u8 0)) (hs1 : i.size = 1) (hby : i.bytes = 1)
  (g sLen sCap : Nat) (cur : Array Value) (hg : w.heap[g]? = some (.cells cur e (0, 0))) (k : Nat) (h0 : 0 < k) (hle : k ≤ 1000000) (hroom : sLen + k ≤ sCap) (hfit : sLen + k ≤ cur.size) :
  (Builtin.append_ #[t, tn] ty #[.slice (some ⟨g, 0, none⟩) sLen sCap, .int kq k]).run P w =
   .ok (.slice (some ⟨g, 0, none⟩) (sLen + k) sCap) (w.setRow g (cur.toList.take sLen ++ List.replicate k (Value.int .u8 0) ++ cur.toList.drop (sLen + k)).toArray) := by
 have hst := run_storeCells_at P g sLen e (List.replicate k (.int .u8 0)) 0 cur w hg (by simpa using hfit) (by intro u hu; rw [(List.mem_replicate.1 hu).2]; rfl)
 simp only [Nat.add_zero, List.length_replicate] at hst
 have hw : IntKind.i64.wrap (k : Int) = k := by rw [IntKind.wrap_i64]; omega
 have hneg : ¬ ((k : Int) < 0) := by omega
 have h48i : ¬ (281474976710656 < (k : Int)) := by omega
 have hk0 : ¬ (k = 0) := by omega
 have hzc : Builtin.zeroCells (Value.int .u8 0).cells k = (List.replicate k (.int .u8 0)).toArray := zeroCells_one _ k
 simp [Builtin.append_, run_underlying ht, run_underlying htn, sizeOf, typeInfo, zeroValue, hi, hz, hs1, hby, asInt, asIntOf, hw, hneg, h48i, hk0, hroom, hzc, Addr.add_lit, hst]
theorem run_append_own_zeros {P : Program} (w : World) (base : Nat) (t tn ty e : TypeId) (i : TypeInfo) (kq kn : IntKind) (ht : P.underlying t = some (.slice e)) (htn : P.underlying tn = some (.int kn)) (hi : P.info? e = some i) (hz : i.zero = some (.int .u8 0)) (hsize : i.size = 1) (hby : i.bytes = 1)
  (v : Value) (n : Nat) (xs : List Value) (hown : w.ownsRow base e 1 v n xs) (k : Nat) (h0 : 0 < k) (hle : n + k ≤ 1000000) (hbase : base ≤ w.heap.size) :
  ∃ v' w', (Builtin.append_ #[t, tn] ty #[v, .int kq k]).run P w = .ok v' w' ∧ w'.ownsRow base e 1 v' (n + k) (xs ++ List.replicate k (.int .u8 0)) ∧ w.grownBy w' v.ownBlock := by
 have h63 : n + k ≤ maxLen := by unfold maxLen; omega
 have hxl : xs.length = n := by simpa using hown.1
 have hlen : (xs ++ List.replicate k (Value.int .u8 0)).length = (n + k) * 1 := by rw [List.length_append, hxl, List.length_replicate, Nat.mul_one]
 have hzc : Builtin.zeroCells (Value.int .u8 0).cells k = (List.replicate k (.int .u8 0)).toArray := zeroCells_one _ k
 have grown : ∀ (old : Nat), old < n + k → ∀ (row : Option Nat),
   (w.drew.alloc (.cells (xs.toArray ++ Builtin.zeroCells (Value.int .u8 0).cells k ++ Builtin.zeroCells (Value.int .u8 0).cells (grownCap w (n + k) old e - (n + k))) e)).ownsRow base e 1
    (.slice (some ⟨w.heap.size, 0, none⟩) (n + k) (grownCap w (n + k) old e)) (n + k) (xs ++ List.replicate k (.int .u8 0)) ∧
   w.grownBy (w.drew.alloc (.cells (xs.toArray ++ Builtin.zeroCells (Value.int .u8 0).cells k ++ Builtin.zeroCells (Value.int .u8 0).cells (grownCap w (n + k) old e - (n + k))) e)) row := by
  intro old ho row
  have hge := grownCap_ge w (n + k) old e
  have hcm : grownCap w (n + k) old e ≤ maxLen := grownCap_le_maxLen w (n + k) old e h63
  refine ⟨⟨hlen, .inr ⟨w.heap.size, _, _, rfl, hbase, heap_alloc_new w.drew _, hge, hcm, ?_, ?_⟩⟩, ⟨rfl, rfl, rfl, by simp, fun j hj _ => heap_alloc_old w.drew _ hj⟩⟩
  ·have hz1 : (Value.int IntKind.u8 0).cells.size = 1 := rfl
   simp only [Array.size_append, List.size_toArray, size_zeroCells, hz1, hxl]
   omega
  ·rw [hzc]
   simp only [Array.toList_append, List.append_assoc]
   rw [← List.append_assoc, ← hlen]
   exact List.take_left
 rcases hown.2 with ⟨rfl, rfl⟩ | ⟨g, cap, cur, rfl, hbg, hg, hnc, hcm, hcs, htake⟩
 ·have hx : xs = [] := List.eq_nil_of_length_eq_zero hxl
  subst hx
  have hr := Lib.run_append_grow_zeros (P := P) w t tn ty e i (.int .u8 0) kq kn ht htn hi hz none 0 0 [] (by simp [Builtin.firstCells]) k h0 (by omega) (by omega) (by omega) (by rw [hby]; omega) (by rw [hby]; exact growslice_fits (by omega) (by omega))
  have hgr := grown 0 (by omega) (Value.ownBlock (.slice none 0 0))
  exact ⟨_, _, hr, hgr.1, hgr.2⟩
 ·by_cases hroom : n + k ≤ cap
  ·have hcs' : cur.size = cap := by simpa using hcs
   have hr := run_append_room_zeros (P := P) w t tn ty e i kq kn ht htn hi hz hsize hby g n cap cur hg k h0 (by omega) hroom (by omega)
   refine ⟨_, _, hr, ⟨hlen, .inr ⟨g, cap, _, rfl, hbg, setRow_heap w g cur _ e _ hg, hroom, hcm, ?_, ?_⟩⟩, ⟨rfl, rfl, rfl, by simp, fun k _ hk => setRow_other w g k _ (fun e => hk (by simp [Value.ownBlock, e]))⟩⟩
   ·simp only [List.size_toArray, List.length_append, List.length_take, List.length_drop, Array.length_toList, List.length_replicate]
    omega
   ·have ht' : cur.toList.take n = xs := by simpa using htake
    rw [ht', ← hlen]
    exact List.take_left
  ·have holds : ∀ j u, xs[j]? = some u → w.cell? ((⟨g, 0, none⟩ : Addr).add j) = some u := hown.cells (g := g) rfl
   have hfo := run_firstCells_some (P := P) w.drew i.size n ⟨g, 0, none⟩ n cap xs (by rw [hsize]; simpa using hxl) (by simpa using holds)
   have hr := Lib.run_append_grow_zeros (P := P) w t tn ty e i (.int .u8 0) kq kn ht htn hi hz (some ⟨g, 0, none⟩) n cap xs hfo k h0 (by omega) (by omega) (by omega) (by rw [hby]; omega) (by rw [hby]; exact growslice_fits (by omega) (by omega))
   have hgr := grown cap (by omega) (Value.ownBlock (.slice (some ⟨g, 0, none⟩) n cap))
   exact ⟨_, _, hr, hgr.1, hgr.2⟩
/-- The operation, for the walk. -/
theorem wpList_append_zeros {ops : Array Oper} {rest : List Oper} {o : Oper} {a : Act} {Q : Exit → Act → World → Prop} {w : World} (hgd : o.guard = none) (s x : Operand)
  (ho : o.op = .call { callee := .builtin .append, args := #[s, x], argTypes := #[51, 3] }) (base : Nat)
  (a0 : Option Addr) (n0 c0 : Nat) (xs : List Int) (hs : a.eval s = .slice a0 n0 c0) (hown : w.ownsRow base 5 1 (.slice a0 n0 c0) n0 (u8s xs))
  (k : Nat) (hx : a.eval x = .int .i64 k) (h0 : 0 < k) (hle : n0 + k ≤ 1000000) (hbase : base ≤ w.heap.size)
  (h : ∀ a' c' w', w'.ownsRow base 5 1 (.slice a' (n0 + k) c') (n0 + k) (u8s (xs ++ List.replicate k 0)) → Below base w w' → wpList Tryz.prog ops Q rest (a.put o.dst (.slice a' (n0 + k) c')) w') :
  wpList Tryz.prog ops Q (o :: rest) a w := by
 obtain ⟨i0, hi, hz0, hz1, hz2⟩ := info_parts Tryz.zero_u8
 refine wpList_plain hgd fun K hK => ?_
 obtain ⟨v', w', hr, hown', hgrow⟩ := run_append_own_zeros (P := Tryz.prog) w base 51 3 o.type 5 i0 .i64 .i64 Tryz.underlying51 Tryz.underlying3 hi hz0 hz1 hz2 _ n0 (u8s xs) hown k h0 hle hbase
 have hb : Below base w w' := (Below.refl base w).grown hgrow hbase (fun k hk => (hown.lt k hk).1)
 have hcat : u8s xs ++ List.replicate k (Value.int .u8 0) = u8s (xs ++ List.replicate k 0) := by simp [u8s]
 rw [hcat] at hown'
 obtain ⟨a', c', rfl⟩ : ∃ a' c', v' = .slice a' (n0 + k) c' := by
  rcases hown'.2 with ⟨hv, hn⟩ | ⟨g, cap, cur, hv, _⟩
  ·exact ⟨none, 0, by rw [hv, hn]⟩
  ·exact ⟨_, _, hv⟩
 unfold Oper.wp execOp
 simp only [ho, resolve, invoke, builtin, Sem.run_bind, Sem.run_pure, Result.andThen_ok, List.map_toArray, List.map_cons, List.map_nil, hs, hx, hr]
 exact hK _ _ (h a' c' w' hown' hb)
end Go.Proofs.YtcdnjeiamihhbabGreat
