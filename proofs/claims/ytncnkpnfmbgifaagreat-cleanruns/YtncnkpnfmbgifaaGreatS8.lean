/- Texts of this seat, one behind the other: ClDp, ClDs, ClDr, ClBo. -/
import Derived.Test.YtncnkpnfmbgifaaGreatS3
import Derived.Test.YtncnkpnfmbgifaaGreatS4
import Derived.Test.YtncnkpnfmbgifaaGreatQ17
import Derived.Deep.RegionHeld3
import Derived.Test.YtncnkpnfmbgifaaGreatS5
import Derived.Test.YtncnkpnfmbgifaaGreatQ15
import Derived.Test.YtncnkpnfmbgifaaGreatS6
/- Which zone the document cleans next. -/
namespace Go.Proofs.YtncnkpnfmbgifaaGreat
open Go.RowKit
set_option linter.unusedVariables false
set_option maxRecDepth 4000
theorem run_app1 {e t ty : TypeId} {size : Nat} {z : Value} (ht : Tryz.prog.underlying t = some (.slice e)) (hinfo : (Tryz.prog.info? e).map (fun i => (i.zero, i.size, i.bytes)) = some (some z, 1, size)) (hz : z.cells.size = 1) (hsz : size ≤ 24)
  {w : World} (base : Nat) (a0 : Option Addr) (n0 c0 : Nat) (xs : List Value) (hown : w.ownsRow base e 1 (.slice a0 n0 c0) n0 xs)
  (g c1 : Nat) (v : Value) (hc : w.cell? ⟨g, 0, none⟩ = some v) (h1 : v.oneCell' = true) (hle : n0 + 1 ≤ 1000000) (hbase : base ≤ w.heap.size) :
  ∃ a' c' w', (Builtin.append_ #[t, t] ty #[.slice a0 n0 c0, .slice (some ⟨g, 0, none⟩) 1 c1]).run Tryz.prog w = .ok (.slice a' (n0 + 1) c') w' ∧ w'.ownsRow base e 1 (.slice a' (n0 + 1) c') (n0 + 1) (xs ++ [v]) ∧ Below base w w' ∧ w.grownBy w' (Value.slice a0 n0 c0).ownBlock := by
 obtain ⟨i0, hi, hz0, hz1, hz2⟩ := info_parts hinfo
 have hle' := Nat.mul_le_mul hle hsz
 obtain ⟨v', w', hrun, hown', hgrow, _⟩ := run_append_own (P := Tryz.prog) w base t ty e i0 z 1 size ht hi hz0 hz1 hz2 hz (by decide) _ n0 xs hown ⟨g, 0, none⟩ 1 c1 [v] rfl (by
  intro j u hj
  match j, hj with
  | 0, hj =>
   simp at hj
   subst hj
   exact hc) (by intro u hu; simp at hu; subst hu; exact h1) (by unfold maxLen; omega) (by omega) hbase
 have hb : Below base w w' := (Below.refl base w).grown hgrow hbase (fun k hk => (hown.lt k hk).1)
 obtain ⟨a', c', rfl⟩ : ∃ a' c', v' = .slice a' (n0 + 1) c' := by
  rcases hown'.2 with ⟨hv, hn⟩ | ⟨g, cap, cur, hv, _⟩
  ·omega
  ·exact ⟨_, _, hv⟩
 exact ⟨a', c', w', hrun, hown', hb, hgrow⟩
theorem own_two {w : World} {b1 b2 : Nat} {t e : TypeId} {v u : Value} {n m : Nat} {xs ys : List Value} (h : w.ownsRow b1 t 1 v n xs) (k : w.ownsRow b2 e 1 u m ys) (hte : t ≠ e) : v.ownBlock = none ∨ v.ownBlock ≠ u.ownBlock := by
 rcases h.2 with ⟨hv, _⟩ | ⟨g, cap, cur, hv, hb, hg, _⟩
 ·left; rw [hv]; rfl
 ·right
  rcases k.2 with ⟨hu, _⟩ | ⟨g', cap', cur', hu, hb', hg', _⟩
  ·rw [hv, hu]; simp [Value.ownBlock]
  ·rw [hv, hu]
   intro e1
   simp only [Value.ownBlock, Option.some.injEq] at e1
   subst e1
   rw [hg] at hg'
   cases hg'
   exact hte rfl
structure Zw (q : Nat) (V wr : World) (st : St) (F : List Int) (i : Nat) (a1 : Option Addr) (c1 : Nat) (a2 : Option Addr) (c2 n : Nat) (ys : List Nat) : Prop where
 len : ((F.take i).filter (smB st)).length = n
 zs : wr.ownsRow q 3 1 (.slice a1 n c1) n (kInts .i64 ((F.take i).filter (smB st)))
 ws : wr.ownsRow q 89 1 (.slice a2 n c2) n (fvs ys)
 yn : ys.length = n
 y64 : ∀ y ∈ ys, y < 2 ^ 64
 cl : ∀ j z, ((F.take i).filter (smB st))[j]? = some z → Cls (wzC st z.toNat) (ys.getD j 0)
 pos : ∀ x ∈ F.take i, 0 < liveN st.S x
 qs : q ≤ wr.heap.size
 bel : Below q V wr
section
variable {q : Nat} {V wr X : World} {st : St} {F : List Int} {i : Nat} {a1 a2 : Option Addr} {c1 c2 n : Nat} {ys : List Nat} {z : Int}
theorem Zw.skip (h : Zw q V wr st F i a1 c1 a2 c2 n ys) (hx : F[i]? = some z) (h0 : 0 < liveN st.S z) (hb : ¬ (liveN st.S z : Int) ≤ st.s.zb / 2) : Zw q V wr st F (i + 1) a1 c1 a2 c2 n ys := by
 have e : (F.take (i + 1)).filter (smB st) = (F.take i).filter (smB st) := by
  rw [take_snoc hx, List.filter_append]
  have : smB st z = false := by unfold smB; exact decide_eq_false hb
  simp [this]
 obtain ⟨k1, k2, k3, k4, k5, k6, k7, k8, k9⟩ := h
 refine ⟨by rw [e]; exact k1, by rw [e]; exact k2, k3, k4, k5, by rw [e]; exact k6, fun x hx' => ?_, k8, k9⟩
 rw [take_snoc hx, List.mem_append, List.mem_singleton] at hx'
 rcases hx' with h | rfl
 ·exact k7 x h
 ·exact h0
theorem Zw.under (h : Zw q V wr st F i a1 c1 a2 c2 n ys) (hb : Below wr.heap.size wr X) : Zw q V X st F i a1 c1 a2 c2 n ys :=
 ⟨h.len, own_belowN h.zs hb (Nat.le_refl _), own_belowN h.ws hb (Nat.le_refl _), h.yn, h.y64, h.cl, h.pos, Nat.le_trans h.qs hb.size, h.bel.trans (hb.mono h.qs)⟩
theorem Zw.zone (h : Zw q V wr st F i a1 c1 a2 c2 n ys) (hx : F[i]? = some z) (h0 : 0 < liveN st.S z) (hb : (liveN st.S z : Int) ≤ st.s.zb / 2) (hn : n + 1 ≤ 100000) :
  ∃ a9 c9 w9, (Builtin.append_ #[62, 62] 62 #[.slice a1 n c1, .slice (some ⟨wr.heap.size, 0, none⟩) 1 1]).run Tryz.prog (wr.alloc (.cells #[.int .i64 z] 3)) = .ok (.slice a9 (n + 1) c9) w9 ∧ Below q wr w9 ∧
   ∀ Y x, Below w9.heap.size w9 Y → x < 2 ^ 64 → Cls (wzC st z.toNat) x → ∃ a8 c8 w8, (Builtin.append_ #[78, 78] 78 #[.slice a2 n c2, .slice (some ⟨Y.heap.size, 0, none⟩) 1 1]).run Tryz.prog (Y.alloc (.cells #[.float .f64 x] 89)) = .ok (.slice a8 (n + 1) c8) w8 ∧ Zw q V w8 st F (i + 1) a9 c9 a8 c8 (n + 1) (ys ++ [x]) := by
 have e : (F.take (i + 1)).filter (smB st) = (F.take i).filter (smB st) ++ [z] := by
  rw [take_snoc hx, List.filter_append]
  have : smB st z = true := by unfold smB; exact decide_eq_true hb
  simp [this]
 have ba : Below wr.heap.size wr (wr.alloc (.cells #[.int .i64 z] 3)) := (Below.refl _ _).alloc (Nat.le_refl _) _
 have h1 := h.under ba
 obtain ⟨a9, c9, w9, r9, o9, b9, g9⟩ := run_app1 (ty := 62) Tryz.underlying62 Tryz.zero_int rfl (by decide) q a1 n c1 _ h1.zs wr.heap.size 1 (.int .i64 z) (World.cell?_alloc_mark ..) rfl (by omega) h1.qs
 have ws9 : w9.ownsRow q 89 1 (.slice a2 n c2) n (fvs ys) := h1.ws.kept g9 (own_two h1.ws h1.zs (by decide))
 have bq : Below q wr w9 := (ba.mono h.qs).trans b9
 refine ⟨a9, c9, w9, r9, bq, fun Y x hY hx64 hc => ?_⟩
 have bb : Below Y.heap.size Y (Y.alloc (.cells #[.float .f64 x] 89)) := (Below.refl _ _).alloc (Nat.le_refl _) _
 have bY : Below w9.heap.size w9 (Y.alloc (.cells #[.float .f64 x] 89)) := hY.trans (bb.mono hY.size)
 have q9 : q ≤ w9.heap.size := Nat.le_trans h.qs (Nat.le_trans (by simp) b9.size)
 have zsY := own_belowN o9 bY (Nat.le_refl _)
 have wsY := own_belowN ws9 bY (Nat.le_refl _)
 obtain ⟨a8, c8, w8, r8, o8, b8, g8⟩ := run_app1 (ty := 78) Tryz.underlying78 Tryz.zero_f64 rfl (by decide) q a2 n c2 _ wsY Y.heap.size 1 (.float .f64 x) (World.cell?_alloc_mark ..) rfl (by omega) (Nat.le_trans q9 bY.size)
 have zs8 := zsY.kept g8 (own_two zsY wsY (by decide))
 refine ⟨a8, c8, w8, r8, by rw [e, List.length_append, h.len]; rfl, ?_, ?_, by rw [List.length_append, h.yn]; rfl, ?_, ?_, ?_, Nat.le_trans q9 (Nat.le_trans bY.size b8.size), ?_⟩
 ·rw [e]
  simpa [kInts] using zs8
 ·simpa [fvs] using o8
 ·intro y hy
  rw [List.mem_append, List.mem_singleton] at hy
  rcases hy with hy | rfl
  ·exact h.y64 y hy
  ·exact hx64
 ·intro j u hu
  rw [e] at hu
  rcases Nat.lt_or_ge j ((F.take i).filter (smB st)).length with hj | hj
  ·rw [List.getElem?_append_left hj] at hu
   have := h.cl j u hu
   have hjy : j < ys.length := by rw [h.yn, ← h.len]; exact hj
   have e2 : (ys ++ [x]).getD j 0 = ys.getD j 0 := by simp only [List.getD_eq_getElem?_getD, List.getElem?_append_left hjy]
   rw [e2]
   exact this
  ·rw [List.getElem?_append_right hj] at hu
   have hj0 : j - ((F.take i).filter (smB st)).length = 0 := by
    rcases Nat.eq_zero_or_pos (j - ((F.take i).filter (smB st)).length) with h | h
    ·exact h
    ·rw [List.getElem?_eq_none (by simp; omega)] at hu; cases hu
   rw [hj0] at hu
   simp only [List.getElem?_cons_zero, Option.some.injEq] at hu
   subst hu
   have hjl : j = ys.length := by rw [h.yn, ← h.len]; omega
   rw [hjl]
   simpa [List.getD] using hc
 ·intro y hy
  rw [take_snoc hx, List.mem_append, List.mem_singleton] at hy
  rcases hy with hy | rfl
  ·exact h.pos y hy
  ·exact h0
 ·exact h.bel.trans (bq.trans ((bY.mono q9).trans b8))
end
section
variable {D M : Nat → Prop} {W : World} {k : Rs} {st : St}
set_option maxHeartbeats 4000000 in
theorem dcpick_of (h : SdV D M W k st) (hi : Inv2 st) (hz : Sml st.s) : Calls Tryz.prog 13 #[.pointer (some ⟨k.ps, 0, none⟩)] W fun e w' => e = .returned (.int .i64 (pickM st)) ∧ Below W.heap.size W w' := by
 have hS := size_S hi.inv hz
 have hr := hi.inv.wf.right
 have hl : st.L.length ≤ 256 := by have := hi.inv.len; have := hi.inv.wf.len; have := hr.2.1; omega
 obtain ⟨F, hF⟩ : ∃ F, F = listZ st.L 3 := ⟨_, rfl⟩
 obtain ⟨N, hN⟩ : ∃ N, N = F.length := ⟨_, rfl⟩
 obtain ⟨ZB, hZB⟩ : ∃ ZB : Nat, st.s.zb = ZB := ⟨st.s.zb.toNat, by have := hr.2.2.1; omega⟩
 obtain ⟨Q, hQ⟩ : ∃ Q, Q = st.q := ⟨_, rfl⟩
 have hF2 : N ≤ 256 ∧ ∀ z ∈ F, 0 ≤ z ∧ z < 256 := by
  have h4 : (listZ st.L 3).length ≤ st.L.length := listTo_length _ _ _
  rw [← hF] at h4
  refine ⟨by omega, fun z hz => ?_⟩
  rw [hF] at hz
  obtain ⟨i, hi, _, rfl⟩ := listTo_mem.1 hz
  omega
 obtain ⟨c0, c1, c2, c3, _, _⟩ := h.cells
 obtain ⟨_, d1, _, _⟩ := h.dcells
 have KC : ∀ Y, Below W.heap.size W Y → Y.cell? ⟨k.ps, 0, none⟩ = some (.pointer (some ⟨k.pd, 0, none⟩)) ∧ Y.cell? ⟨k.ps, 2, none⟩ = some (.pointer (some ⟨k.pm, 0, none⟩)) ∧ Y.cell? ⟨k.ps, 3, none⟩ = some (.int .u64 Q) ∧ Y.cell? ⟨k.pd, 1, none⟩ = some (.int .i64 ZB) := fun Y hY => by
  have hv := h.under hY
  obtain ⟨e0, _, e2, e3, _⟩ := hv.cells
  obtain ⟨_, f1, _⟩ := hv.dcells
  exact ⟨e0, e2, by rw [hQ]; exact e3, by rw [← hZB]; exact f1⟩
 have HC : Hid (∀ Y, Below W.heap.size W Y → Y.cell? ⟨k.ps, 0, none⟩ = some (.pointer (some ⟨k.pd, 0, none⟩)) ∧ Y.cell? ⟨k.ps, 2, none⟩ = some (.pointer (some ⟨k.pm, 0, none⟩)) ∧ Y.cell? ⟨k.ps, 3, none⟩ = some (.int .u64 Q) ∧ Y.cell? ⟨k.pd, 1, none⟩ = some (.int .i64 ZB)) := KC
 have HL : Hid (Calls Tryz.prog 39 #[.pointer (some ⟨k.pg, 0, none⟩), .int .u8 3] W fun e w' => ∃ A cc, e = .returned (.slice A N cc) ∧ NIn .i64 w' A N F ∧ Below W.heap.size W w') := by
  refine (dgList_of k.pg k.gg k.gc st.s st.L 3 W h.sg).mono ?_
  rintro e w' ⟨A, cc, rfl, ow, hb⟩
  rw [← hF] at ow ⊢
  rw [← hN] at ow ⊢
  exact ⟨A, cc, rfl, own_nin ow (by unfold maxLen; omega) (fun z hz => WalkArith.wf_i64 (by have := hF2.2 z hz; omega)), hb⟩
 have HIn : Hid (∀ Y z, Below W.heap.size W Y → Calls Tryz.prog 40 #[.pointer (some ⟨k.pm, 0, none⟩), .int .i64 z] Y fun e w' => ∃ a cc, e = .returned (.slice a (liveN st.S z) cc) ∧ Below Y.heap.size Y w') := fun Y z hY => by
  refine (dmIn_of k.pm st.S z Y (h.under hY).mp.d (by omega)).mono ?_
  rintro e w' ⟨L, a, cc, rfl, hL, _, hb⟩
  rw [live_in hi.inv.plc.1 hL]
  exact ⟨a, cc, rfl, hb⟩
 have HLa : Hid (∀ Y z, Below W.heap.size W Y → Calls Tryz.prog 42 #[.pointer (some ⟨k.ps, 0, none⟩), .int .i64 z] Y fun e w' => e = .returned (.int .u64 (lastI st.la z)) ∧ Below Y.heap.size Y w') := fun Y z hY => dslast_of z (h.under hY)
 have HH : Hid (Inv2 st ∧ st.s.zb = ZB ∧ Q = st.q ∧ F = listZ st.L 3 ∧ N = F.length ∧ (∀ z ∈ F, 0 ≤ z ∧ z < 256) ∧ N ≤ 256 ∧ ZB ≤ 16 ∧ st.S.length ≤ 192) := ⟨hi, hZB, hQ, hF, hN, hF2.2, hF2.1, by have := hz.2; omega, hS⟩
 clear h hi hz hS hr hl hF hN hZB hQ hF2 c0 c2 c3 d1 KC
 go_enter Tryz.func13, Tryz.ntmps13
 go_wp2_with (go_at_call 39; refine HL.out.mono ?_; rintro e V ⟨A, cc, rfl, nz, hbV⟩)
 have HV : Hid (NIn .i64 V A N F ∧ Below W.heap.size W V) := ⟨nz, hbV⟩
 clear nz hbV HL c1
 go_loopw [4, 5, 6] (fun u v x wr => ∃ (i n c1 c2 : Nat) (a1 a2 : Option Addr) (ys : List Nat), x = .int .i64 i ∧ u = .slice a1 n c1 ∧ v = .slice a2 n c2 ∧ i ≤ N ∧ Zw V.heap.size V wr st F i a1 c1 a2 c2 n ys) (fun _ _ x _ => N - (intOf x).toNat)
 case atStart => exact ⟨0, 0, 0, 0, none, none, [], rfl, rfl, rfl, Nat.zero_le _, ⟨rfl, World.ownsRow_nil _ _ _ _, World.ownsRow_nil _ _ _ _, rfl, by simp, by simp, by simp, Nat.le_refl _, Below.refl _ _⟩⟩
 case round =>
  obtain ⟨i, n, c1, c2, a1, a2, ys, rfl, rfl, rfl, hi, zw⟩ := hrel
  have hN256 := HH.out.2.2.2.2.2.2.1
  have hbW : Below W.heap.size W wr := HV.out.2.trans (zw.bel.mono HV.out.2.size)
  rcases Nat.lt_or_ge i N with hlt | hge
  ·have hi' : (i : Int) < N := by omega
   have hwi : IntKind.i64.wrap ((i : Int) + 1) = (i : Int) + 1 := by rw [IntKind.wrap_i64]; omega
   obtain ⟨z, hz⟩ : ∃ z, F[i]? = some z := ⟨F[i]'(by have := HH.out.2.2.2.2.1; omega), by simp⟩
   obtain ⟨g, off, rfl, hcl⟩ := (HV.out.1.2.2.2).resolve_left (by omega)
   have f0 : wr.cell? ⟨g, off + i, none⟩ = some (.int .i64 z) := by
    have := hcl i hlt
    rw [zw.bel.cell (old_block this), this]
    simp [List.getD, hz]
   obtain ⟨k0, k2, k3, kd⟩ := HC.out wr hbW
   obtain ⟨m, hm⟩ : ∃ m, m = liveN st.S z := ⟨_, rfl⟩
   have hI := HIn.out wr z hbW
   rw [← hm] at hI
   have HI : Hid (Calls Tryz.prog 40 #[.pointer (some ⟨k.pm, 0, none⟩), .int .i64 z] wr fun e w' => ∃ a cc, e = .returned (.slice a m cc) ∧ Below wr.heap.size wr w') := hI
   have HZ : Hid (Zw V.heap.size V wr st F i a1 c1 a2 c2 n ys ∧ F[i]? = some z ∧ m = liveN st.S z ∧ Below W.heap.size W wr ∧ 0 ≤ z ∧ z < 256) := ⟨zw, hz, hm, hbW, HH.out.2.2.2.2.2.1 z (List.mem_of_getElem? hz)⟩
   have hm192 : m ≤ 192 := by
    rw [hm]; unfold liveN
    have := List.length_filter_le (fun p : Pl => p.2.1 == z) st.S
    have := HH.out.2.2.2.2.2.2.2.2
    omega
   clear zw hz hm hI hcl
   have n256 : n ≤ 256 := by
    have := HZ.out.1.len
    have h2 := List.length_filter_le (smB st) (F.take i)
    rw [List.length_take] at h2
    omega
   by_cases h0 : m = 0
   ·subst h0
    clear k0 k3 kd
    go_wp2_with (go_at_call 40; refine HI.out.mono ?_; rintro e Y ⟨a, cc, rfl, bY⟩)
    go_ret
    obtain ⟨z1, z2, z3, z4, z5⟩ := HZ.out
    refine ⟨?_, z4.trans (bY.mono z4.size)⟩
    have hp := HH.out
    rw [pick_zero hp.1.inv.wf.right (i := i) (z := z) (by rw [← hp.2.2.2.1]; exact z2) z3.symm (fun x hx => z1.pos x (by rw [hp.2.2.2.1]; exact hx))]
    rfl
   ·have n0 : ¬ (m : Int) = 0 := by omega
    have hq : (ZB : Int).tdiv 2 = ((ZB / 2 : Nat) : Int) := by rw [Int.tdiv_eq_ediv_of_nonneg (by omega)]; omega
    obtain ⟨H, hH⟩ : ∃ H, H = ZB / 2 := ⟨_, rfl⟩
    rw [← hH] at hq
    have hZ16 := HH.out.2.2.2.2.2.2.2.1
    have hw3 : wrap64 (H : Int) = H := by unfold wrap64; omega
    have hzb := HH.out.2.1
    by_cases hb : m ≤ H
    ·have hb' : (m : Int) ≤ H := by omega
     have hsm : (liveN st.S z : Int) ≤ st.s.zb / 2 := by rw [← HZ.out.2.2.1, hzb]; omega
     have hlv : 0 < liveN st.S z := by rw [← HZ.out.2.2.1]; omega
     have w1 : IntKind.u64.wrap (m : Int) = m := by rw [IntKind.wrap_u64]; omega
     have w2 : IntKind.u64.wrap (ZB : Int) = ZB := by rw [IntKind.wrap_u64]; omega
     obtain ⟨la, hla⟩ : ∃ la, la = lastI st.la z := ⟨_, rfl⟩
     obtain ⟨age, hage⟩ : ∃ age : Nat, (age : Int) = ageI st z := ⟨(ageI st z).toNat, by unfold ageI; omega⟩
     obtain ⟨P, hP⟩ : ∃ P, IntKind.u64.wrap (Q - la) = P := ⟨_, rfl⟩
     have hP2 : IntKind.u64.wrap (P + 1) = (age : Int) := by
      rw [hage, ← hP, HH.out.2.2.1, hla]
      unfold ageI
      simp only [IntKind.wrap_u64]
      omega
     have HE : Hid (wzC st z.toNat = worC m ZB age) := by
      obtain ⟨j, hj, j3, ej⟩ := listTo_mem.1 (show z ∈ listZ st.L 3 by rw [← HH.out.2.2.2.1]; exact List.mem_of_getElem? HZ.out.2.1)
      show _ = _
      subst ej
      unfold wzC
      rw [Int.toNat_natCast, if_pos j3, ← HZ.out.2.2.1, hzb, ← hage]
      unfold fullC
      rw [if_neg h0, if_neg (by simp; omega)]
      simp
     have HWo : Hid (∀ Y, Calls Tryz.prog 41 #[.int .u64 (m : Nat), .int .u64 (ZB : Nat), .int .u64 (age : Nat)] Y fun e w' => ∃ x, e = .returned (.float .f64 x) ∧ (x < 2 ^ 64 ∧ Cls (wzC st z.toNat) x) ∧ Below Y.heap.size Y w') := fun Y => by
      refine (refWorth_of m ZB age Y).mono ?_
      rintro e w' ⟨x, rfl, hx, hd⟩
      exact ⟨x, rfl, ⟨hx.1, by rw [HE.out]; exact hx⟩, hd.below (Below.refl _ _)⟩
     have HLs : Hid (∀ Y, Below W.heap.size W Y → Calls Tryz.prog 42 #[.pointer (some ⟨k.ps, 0, none⟩), .int .i64 z] Y fun e w' => e = .returned (.int .u64 la) ∧ Below Y.heap.size Y w') := fun Y hY => by rw [hla]; exact HLa.out Y z hY
     have HZo : Hid (∀ Y, Below wr.heap.size wr Y → ∃ a9 c9 w9, (Builtin.append_ #[62, 62] 62 #[.slice a1 n c1, .slice (some ⟨Y.heap.size, 0, none⟩) 1 1]).run Tryz.prog (Y.alloc (.cells #[.int .i64 z] 3)) = .ok (.slice a9 (n + 1) c9) w9 ∧ Below W.heap.size W w9 ∧ ∀ X x, Below w9.heap.size w9 X → x < 2 ^ 64 → Cls (wzC st z.toNat) x → ∃ a8 c8 w8, (Builtin.append_ #[78, 78] 78 #[.slice a2 n c2, .slice (some ⟨X.heap.size, 0, none⟩) 1 1]).run Tryz.prog (X.alloc (.cells #[.float .f64 x] 89)) = .ok (.slice a8 (n + 1) c8) w8 ∧ Zw V.heap.size V w8 st F (i + 1) a9 c9 a8 c8 (n + 1) (ys ++ [x])) := fun Y hY => by
      obtain ⟨a9, c9, w9, e9, b9, hf⟩ := (HZ.out.1.under hY).zone HZ.out.2.1 hlv hsm (by omega)
      have hbV := HV.out.2
      exact ⟨a9, c9, w9, e9, hbV.trans ((HZ.out.1.bel.trans ((hY.mono HZ.out.1.qs).trans b9)).mono hbV.size), hf⟩
     clear hsm hlv hage hla hH
     go_wp2_with (first
      | (go_at_call 40; refine HI.out.mono ?_; rintro e Y ⟨a, cc, rfl, bY⟩; have bW : Below W.heap.size W Y := HZ.out.2.2.2.1.trans (bY.mono HZ.out.2.2.2.1.size); obtain ⟨y0, y2, y3, yd⟩ := HC.out Y bW; obtain ⟨a9, c9, w9, e9, b9, hfin⟩ := HZo.out Y bY; obtain ⟨v0, v2, v3, vd⟩ := HC.out w9 b9; have HF9 : Hid (Below W.heap.size W w9 ∧ ∀ X x, Below w9.heap.size w9 X → x < 2 ^ 64 → Cls (wzC st z.toNat) x → ∃ a8 c8 w8, (Builtin.append_ #[78, 78] 78 #[.slice a2 n c2, .slice (some ⟨X.heap.size, 0, none⟩) 1 1]).run Tryz.prog (X.alloc (.cells #[.float .f64 x] 89)) = .ok (.slice a8 (n + 1) c8) w8 ∧ Zw V.heap.size V w8 st F (i + 1) a9 c9 a8 c8 (n + 1) (ys ++ [x])) := ⟨b9, hfin⟩; clear b9 hfin bW bY)
      | (at_builtin; refine wpList_append_run rfl _ _ 62 62 rfl _ _ rfl rfl _ _ e9 ?_))
     clear y0 y2 y3 yd v2 e9
     go_region_held3 (fun Y => Y.cell? ⟨k.ps, 0, none⟩ = some (.pointer (some ⟨k.pd, 0, none⟩)) ∧ Y.cell? ⟨k.pd, 1, none⟩ = some (.int .i64 ZB) ∧ Y.cell? ⟨k.ps, 3, none⟩ = some (.int .u64 Q)) (first | exact ⟨v0, vd, v3⟩ | exact d2 | exact d3 | exact d4 | exact d5)
      (first
      | (go_simp; go_at_call 42; refine (HLs.out _ HF9.out.1.drew).mono ?_; rintro e X2 ⟨rfl, bx2⟩; have b2 : Below w9.heap.size w9 X2 := (Below.refl _ _).drew.trans bx2; have dd := HC.out X2 (HF9.out.1.trans (b2.mono HF9.out.1.size)); have d2 := And.intro dd.1 (And.intro dd.2.2.2 dd.2.2.1); clear dd bx2)
      | (go_simp; go_at_call 41; refine (HWo.out _).mono ?_; rintro e X3 ⟨x, rfl, hx, bx3⟩; have b3 : Below w9.heap.size w9 X3 := b2.trans (bx3.mono b2.size); have dd := HC.out X3 (HF9.out.1.trans (b3.mono HF9.out.1.size)); have d3 := And.intro dd.1 (And.intro dd.2.2.2 dd.2.2.1); have b4 : Below w9.heap.size w9 (X3.alloc (.cells #[.float .f64 x] 89)) := b3.trans (((Below.refl _ _).alloc (Nat.le_refl _) _).mono b3.size); have de := HC.out _ (HF9.out.1.trans (b4.mono HF9.out.1.size)); have d4 := And.intro de.1 (And.intro de.2.2.2 de.2.2.1); obtain ⟨a8, c8, w8, e8, z8⟩ := HF9.out.2 X3 x b3 hx.1 hx.2; have df := HC.out w8 (HV.out.2.trans (z8.bel.mono HV.out.2.size)); have d5 := And.intro df.1 (And.intro df.2.2.2 df.2.2.1); clear dd de df bx3 b4)
      | (refine step_append_run rfl _ _ 78 78 rfl _ _ rfl rfl _ _ e8 ?_))
     have HZ8 : Hid (Zw V.heap.size V w8 st F (i + 1) a9 c9 a8 c8 (n + 1) (ys ++ [x])) := z8
     clear z8 e8 d2 d3 d4 d5 b2 b3 hx v0 v3 vd
     go_wp2
     exact ⟨⟨i + 1, n + 1, c9, c8, a9, a8, ys ++ [x], by simp, rfl, rfl, by omega, HZ8.out⟩, by simp [intOf]; omega⟩
    ·have hb' : ¬ (m : Int) ≤ H := by omega
     have hbig : ¬ (liveN st.S z : Int) ≤ st.s.zb / 2 := by rw [← HZ.out.2.2.1, hzb]; omega
     have hlv : 0 < liveN st.S z := by rw [← HZ.out.2.2.1]; omega
     have HZs : Hid (∀ Y, Below wr.heap.size wr Y → Zw V.heap.size V Y st F (i + 1) a1 c1 a2 c2 n ys) := fun Y hY => (HZ.out.1.under hY).skip HZ.out.2.1 hlv hbig
     clear hbig hlv hH
     go_wp2_with (go_at_call 40; refine HI.out.mono ?_; rintro e Y ⟨a, cc, rfl, bY⟩; obtain ⟨y0, y2, y3, yd⟩ := HC.out Y (HZ.out.2.2.2.1.trans (bY.mono HZ.out.2.2.2.1.size)))
     exact ⟨⟨i + 1, n, c1, c2, a1, a2, ys, by simp, rfl, rfl, by omega, HZs.out Y bY⟩, by simp [intOf]; omega⟩
  ·obtain rfl : i = N := by omega
   have hp := HH.out
   rw [hp.2.2.2.2.1] at zw
   have hpos := zw.pos
   have hcl := zw.cl
   have hlen := zw.len
   rw [List.take_of_length_le (Nat.le_refl _)] at hpos hcl hlen
   have hw64 := zw.y64
   have hn : n ≤ 256 := by
    have h2 := List.length_filter_le (smB st) F
    rw [hlen] at h2
    omega
   have hfin : FIn wr a2 n ys := own_fin zw.ws (by unfold maxLen; omega) hw64
   have hzs := zw.zs
   rw [List.take_of_length_le (Nat.le_refl _)] at hzs
   have hnin := own_nin hzs (by unfold maxLen; omega) (fun z hz => WalkArith.wf_i64 (by have := hp.2.2.2.2.2.1 z ((List.mem_filter.1 hz).1); omega))
   have HB : Hid (Calls Tryz.prog 43 #[.slice a2 n c2] wr fun e w' => (e = .returned (.int .i64 (-1)) ∧ pickM st = -1 ∧ Below wr.heap.size wr w') ∨ ∃ k : Nat, e = .returned (.int .i64 k) ∧ k < n ∧ ∃ z g off, (F.filter (smB st))[k]? = some z ∧ pickM st = z ∧ a1 = some ⟨g, off, none⟩ ∧ w'.cell? ⟨g, off + k, none⟩ = some (.int .i64 z) ∧ Below wr.heap.size wr w') := by
    refine (refBest_of a2 n c2 ys wr hfin (by omega)).mono ?_
    rintro e w' ⟨B, rfl, hB, hd⟩
    have hb := hd.below (Below.refl wr.heap.size wr)
    rcases pick_list hp.1.inv.wf.right (by rw [← hp.2.2.2.1]; exact hpos) (F := F.filter (smB st)) (by rw [hp.2.2.2.1]) (ys := ys) hcl (B := B) (by rw [hlen]; exact hB) with ⟨e1, e2⟩ | ⟨k, e1, z, hz, e2⟩
    ·exact .inl ⟨by rw [e1], e2, hb⟩
    ·subst e1
     have hk : k < n := by rw [← hlen]; exact (List.getElem?_eq_some_iff.1 hz).1
     obtain ⟨g, off, e3, hc⟩ := hnin.2.2.2.resolve_left (by omega)
     refine .inr ⟨k, rfl, hk, z, g, off, hz, e2, e3, ?_, hb⟩
     have := hc k hk
     rw [hb.cell (old_block this), this]
     simp [List.getD, hz]
   have HW : Hid (Below W.heap.size W wr) := hbW
   clear zw hpos hcl hlen hw64 hfin hzs hnin hbW hp
   go_wp2_with fail
   refine HB.out.mono ?_
   rintro e w' (⟨rfl, e2, hb⟩ | ⟨j, rfl, hj, z, g, off, hz, e2, e3, hc, hb⟩)
   ·have HR : Hid (pickM st = -1 ∧ Below W.heap.size W w') := ⟨e2, HW.out.trans (hb.mono HW.out.size)⟩
    clear e2 hb HB
    go_wp2
    go_ret
    exact ⟨by rw [HR.out.1]; rfl, HR.out.2⟩
   ·subst e3
    have HR : Hid (pickM st = z ∧ Below W.heap.size W w') := ⟨e2, HW.out.trans (hb.mono HW.out.size)⟩
    have hj' : (j : Int) < n := by omega
    have hj0 : ¬ (j : Int) < 0 := by omega
    clear e2 hb HB hz
    go_wp2
    go_ret
    exact ⟨by rw [HR.out.1]; rfl, HR.out.2⟩
end
end Go.Proofs.YtncnkpnfmbgifaaGreat

/- What the document's step of cleaning does, and its run. -/
namespace Go.Proofs.YtncnkpnfmbgifaaGreat
open Go.RowKit
set_option linter.unusedVariables false
set_option maxRecDepth 4000
section
variable {D M R : Nat → Prop} {W V w : World} {k : Rs} {st : St}
theorem dsflush_sd (h : Sd R V k st w) : Calls Tryz.prog 50 #[.pointer (some ⟨k.ps, 0, none⟩)] w fun e w' => (∃ v, e = .returned v) ∧ Sd R V k (flushM st) w' := by
 obtain ⟨D, M, hv, hD, ho⟩ := h
 exact (dsflush_of hv).mono (fun e w' hh => ⟨hh.1, Sd.next hD ho hh.2⟩)
theorem dsmark_sd (h : Sd R V k st w) (hS : st.S.length ≤ 10000) (ho : st.o = 0 ∨ st.o = 1) : Calls Tryz.prog 51 #[.pointer (some ⟨k.ps, 0, none⟩)] w fun e w' => e = .returned (.int .i64 (markM st).1) ∧ Sd R V k (markM st).2 w' := by
 obtain ⟨D, M, hv, hD, ho'⟩ := h
 exact (dsmark_of hv hS ho).mono (fun e w' hh => ⟨hh.1, Sd.next hD ho' hh.2⟩)
theorem dsclear_sd (z : Int) (h : Sd R V k st w) (hS : st.S.length ≤ 10000) : Calls Tryz.prog 52 #[.pointer (some ⟨k.ps, 0, none⟩), .int .i64 z] w fun e w' => e = .returned (.bool (decide (clearOk st z))) ∧ Sd R V k (clearM st z) w' := by
 obtain ⟨D, M, hv, hD, ho'⟩ := h
 exact (dsclear_of z hv hS).mono (fun e w' hh => ⟨hh.1, Sd.next hD ho' hh.2⟩)
set_option maxHeartbeats 4000000 in
theorem dcstep_of (h : SdV D M W k st) (hi : Inv2 st) (hz : Sml st.s) :
  Calls Tryz.prog 15 #[.pointer (some ⟨k.ps, 0, none⟩)] W fun e w' => e = .returned (.bool (stepM st).1) ∧ Sd (SdO D M k) W k (stepM st).2 w' ∧ Inv2 (stepM st).2 := by
 obtain ⟨Z, hZ⟩ : ∃ Z, Z = pickM st := ⟨_, rfl⟩
 have HP : Hid (Calls Tryz.prog 13 #[.pointer (some ⟨k.ps, 0, none⟩)] W fun e w' => e = .returned (.int .i64 Z) ∧ Below W.heap.size W w') := by
  rw [hZ]; exact dcpick_of h hi hz
 by_cases hneg : Z < 0
 ·have HE : Hid (stepM st = (false, st)) := by show _ = _; unfold stepM; rw [if_pos (by rw [← hZ]; exact hneg)]
  have HS : Hid (∀ w', Below W.heap.size W w' → Sd (SdO D M k) W k st w' ∧ Inv2 st) := fun w' hb => ⟨(Sd.start h).under hb, hi⟩
  clear h hZ hi
  go_enter Tryz.func15, Tryz.ntmps15
  go_wp2_with (go_at_call 13; refine HP.out.mono ?_; rintro e w1 ⟨rfl, b1⟩)
  go_ret
  rw [HE.out]
  exact ⟨rfl, HS.out _ b1⟩
 ·have hl : ∀ L, IsIn st.S Z L → L.length ≤ 16 := fun L hL => by
   have := car_len hi (by rw [← hZ]; exact hL)
   have := hz.2
   omega
  have hE : stepM st = if (stepP st).1 ≠ 0 then (false, (stepP st).2) else if (stepK st).1 ≠ 0 then (false, (stepK st).2) else (decide (clearOk (stepK st).2 Z), clearM (stepK st).2 Z) := by
   unfold stepM
   rw [if_neg (by rw [← hZ]; exact hneg), ← hZ]
  have HC2 : Hid (∀ Y, Below W.heap.size W Y → Y.cell? ⟨k.ps, 2, none⟩ = some (.pointer (some ⟨k.pm, 0, none⟩))) := fun Y hY => (h.under hY).cells.2.2.1
  have HIn : Hid (∀ Y, Below W.heap.size W Y → Calls Tryz.prog 40 #[.pointer (some ⟨k.pm, 0, none⟩), .int .i64 Z] Y fun e X => ∃ L a cc, e = .returned (.slice a L.length cc) ∧ IsIn st.S Z L ∧ PlIn X a L.length L ∧ Below W.heap.size W X) := fun Y hY => by
   refine (dmIn_of k.pm st.S Z Y (h.under hY).mp.d (by have := size_S hi.inv hz; omega)).mono ?_
   rintro e X ⟨L, a, cc, rfl, hI, hp, hb⟩
   exact ⟨L, a, cc, rfl, hI, hp, hY.trans (hb.mono hY.size)⟩
  have H : Hid (SdV D M W k st ∧ Inv2 st ∧ Sml st.s ∧ Z = pickM st ∧ (stepM st = if (stepP st).1 ≠ 0 then (false, (stepP st).2) else if (stepK st).1 ≠ 0 then (false, (stepK st).2) else (decide (clearOk (stepK st).2 Z), clearM (stepK st).2 Z))) := ⟨h, hi, hz, hZ, hE⟩
  clear h hi hz hZ hE
  go_enter Tryz.func15, Tryz.ntmps15
  go_wp2_with (first
   | (go_at_call 13; refine HP.out.mono ?_; rintro e W1 ⟨rfl, b1⟩; have c2 := HC2.out W1 b1)
   | (go_at_call 40; refine (HIn.out _ b1).mono ?_; rintro e V ⟨L, a, cc, rfl, hI, hp, hb⟩))
  have HV : Hid (Below W.heap.size W V ∧ PlIn V a L.length L ∧ L = inM st.S Z ∧ IsIn st.S Z L ∧ L.length ≤ 16) := ⟨hb, hp, in_one hI, hI, hl L hI⟩
  clear hb hp hI hl HP HC2 HIn c2 b1
  go_loopw [5, 6] (fun v x wr => ∃ (i C : Nat) (A : Option Addr), x = .int .i64 i ∧ v = .slice A i C ∧ i ≤ L.length ∧ RS Non V.heap.size V wr A i C ((L.take i).map (carP (memT st)))) (fun _ x _ => L.length - (intOf x).toNat)
  case atStart => exact ⟨0, 0, none, rfl, rfl, Nat.zero_le _, by simpa using RS.start Non V⟩
  case round =>
   obtain ⟨i, C, A, rfl, rfl, hi, rs⟩ := hrel
   have hl16 := HV.out.2.2.2.2
   rcases Nat.lt_or_ge i L.length with hlt | hge
   ·have hi' : (i : Int) < L.length := by omega
    have hwi : IntKind.i64.wrap ((i : Int) + 1) = (i : Int) + 1 := by rw [IntKind.wrap_i64]; omega
    obtain ⟨x, g, hx, rfl, v0, v1, _, _⟩ := HV.out.2.1.at hlt
    have HK : Hid (∀ Y, Below V.heap.size V Y → Y.cell? ⟨g, i * 4, none⟩ = some (.int .u32 x.1.1) ∧ Y.cell? ⟨g, i * 4 + 1, none⟩ = some (.int .u64 x.1.2)) := fun Y hY => ⟨(hY.cell (old_block v0)).trans v0, (hY.cell (old_block v1)).trans v1⟩
    obtain ⟨y0, y1⟩ := HK.out wr rs.bel
    have hxm : x ∈ st.S := ((HV.out.2.2.2.1.2 x).1 (List.mem_of_getElem? hx)).1
    have hfx : FitsN x.1 := (H.out.2.1.inv.plc.1.fits x hxm).1
    have hsz := rs.bel.size
    have HN : Hid ((L.take (i + 1)).map (carP (memT st)) = (L.take i).map (carP (memT st)) ++ [carP (memT st) x]) := by show _ = _; rw [take_snoc hx]; simp
    have HGet : Hid (∀ Y, Below wr.heap.size wr Y → Calls Tryz.prog 48 #[.pointer (some ⟨k.ps, 0, none⟩), .int .u32 x.1.1, .int .u64 x.1.2] Y fun e X => ∃ a1 n1 c1, e = .returned (.tuple #[.slice a1 n1 c1, .bool (memT st x.1).isSome]) ∧ (∃ a9 c9 w9, (Builtin.append_ #[72, 72] 72 #[.slice A i C, .slice (some ⟨X.heap.size, 0, none⟩) 1 1]).run Tryz.prog (X.drew.alloc (.cells #[.int .u32 x.1.1, .int .u64 x.1.2, .bool false, .slice a1 n1 c1] 71)) = .ok (.slice a9 (i + 1) c9) w9 ∧ RS Non V.heap.size V w9 a9 (i + 1) c9 ((L.take (i + 1)).map (carP (memT st))) ∧ (∀ o, (X.drew.alloc o).cell? ⟨g, i * 4, none⟩ = some (.int .u32 x.1.1) ∧ (X.drew.alloc o).cell? ⟨g, i * 4 + 1, none⟩ = some (.int .u64 x.1.2)) ∧ w9.cell? ⟨g, i * 4, none⟩ = some (.int .u32 x.1.1) ∧ w9.cell? ⟨g, i * 4 + 1, none⟩ = some (.int .u64 x.1.2)) ∧ X.cell? ⟨g, i * 4, none⟩ = some (.int .u32 x.1.1) ∧ X.cell? ⟨g, i * 4 + 1, none⟩ = some (.int .u64 x.1.2)) := fun Y hY => by
     have hY2 := rs.below hsz hY
     have hbV : Below W.heap.size W Y := HV.out.1.trans (hY2.bel.mono HV.out.1.size)
     refine (dsget_of (H.out.1.under hbV) x.1 (by have := size_S H.out.2.1.inv H.out.2.2.1; omega) H.out.2.1.inv.plc).mono ?_
     rintro e X ⟨v, rfl, hk, hb⟩
     obtain ⟨a1, c1, rfl⟩ := own_slice hk.1
     obtain ⟨a9, c9, w9, e9, r9⟩ := RS.carry (X := X.drew) hY2 (Nat.le_trans hsz hY.size) hb.drew hk (mem_size H.out.2.1.inv x.1) hfx (by omega)
     have hX : Below V.heap.size V X := hY2.bel.trans (hb.mono (Nat.le_trans hsz hY.size))
     have hXs := hX.size
     exact ⟨a1, _, c1, rfl, ⟨a9, c9, w9, e9, by rw [HN.out]; exact r9, fun o => HK.out _ (hX.drew.alloc hXs o), HK.out _ r9.bel⟩, HK.out _ hX⟩
    generalize (memT st x.1).isSome = is at HGet
    clear rs hx hxm hfx hsz
    go_wp2_with fail
    go_region_held3 (fun Y => Y.cell? ⟨g, i * 4, none⟩ = some (.int .u32 x.1.1) ∧ Y.cell? ⟨g, i * 4 + 1, none⟩ = some (.int .u64 x.1.2)) (first | exact ⟨y0, y1⟩ | exact d1)
     (first | (go_simp; go_at_call 48; refine (HGet.out _ (Below.refl _ _).drew).mono ?_; rintro e X ⟨a1, n1, c1, rfl, b1, d1⟩))
    obtain ⟨a9, c9, w9, e9, r9, d2, d3⟩ := b1
    have HR9 : Hid (RS Non V.heap.size V w9 a9 (i + 1) c9 ((L.take (i + 1)).map (carP (memT st)))) := r9
    clear r9 HGet
    go_wp2_with fail
    go_region_held3 (fun Y => Y.cell? ⟨g, i * 4, none⟩ = some (.int .u32 x.1.1) ∧ Y.cell? ⟨g, i * 4 + 1, none⟩ = some (.int .u64 x.1.2)) (first | exact d1 | exact d2 _ | exact d3)
     (first | (refine step_append_run rfl _ _ 72 72 rfl _ _ rfl rfl _ _ e9 ?_))
    go_wp2
    exact ⟨⟨i + 1, c9, a9, by simp, rfl, by omega, HR9.out⟩, by simp [intOf]; omega⟩
   ·obtain rfl : i = L.length := by omega
    rw [List.take_of_length_le (Nat.le_refl _)] at rs
    have hL : L.map (carP (memT st)) = carL st Z := by rw [HV.out.2.2.1]; rfl
    rw [hL] at rs
    have hlen : (carL st Z).length = L.length := by rw [← hL]; simp
    have hbV : Below W.heap.size W wr := HV.out.1.trans (rs.bel.mono HV.out.1.size)
    have hpts := rs.pts hlen (by omega)
    have HPu : Hid (Calls Tryz.prog 49 #[.pointer (some ⟨k.ps, 0, none⟩), .slice A L.length C] wr fun e w' => e = .returned (.int .i64 (stepP st).1) ∧ Sd (SdO D M k) W k (stepP st).2 w' ∧ Inv2 (stepM st).2 ∧ Inv2 (stepP st).2) := by
     refine (dsput_of (H.out.1.under hbV) A L.length C (carL st Z) _ hpts rs.cap (fun x hx => ⟨fun hs => ?_, hx.2⟩) (by have := size_S H.out.2.1.inv H.out.2.2.1; omega)).mono ?_
     ·rcases hx.1 with h | h
      ·exact h.elim
      ·have := H.out.1.all x hs
       have := HV.out.1.size
       omega
     ·rintro e w' ⟨rfl, sv, _⟩
      have hf := hpts.fits
      rw [H.out.2.2.2.1] at sv hf ⊢
      exact ⟨rfl, Sd.from hbV sv, step_inv2 H.out.2.1 hf, putM_inv2 H.out.2.1 hf⟩
    clear rs hL hlen hbV hpts
    have hE := H.out.2.2.2.2
    have hps : (stepP st).2.s = st.s := putM_sh _ _
    obtain ⟨E1, hE1⟩ : ∃ E1, E1 = (stepP st).1 := ⟨_, rfl⟩
    rw [← hE1] at HPu hE
    by_cases hp : E1 = 0
    ·subst hp
     rw [if_neg (by simp)] at hE
     have HMk : Hid (∀ w3, Inv2 (stepP st).2 → Sd (SdO D M k) W k (flushM (stepP st).2) w3 → Calls Tryz.prog 51 #[.pointer (some ⟨k.ps, 0, none⟩)] w3 fun e w4 => e = .returned (.int .i64 (stepK st).1) ∧ Sd (SdO D M k) W k (stepK st).2 w4 ∧ (stepK st).2.S.length ≤ 192) := fun w3 h2 h3 => by
      have hs := size_S (flush_inv2 h2).inv (by show Sml (stepP st).2.s; rw [hps]; exact H.out.2.2.1)
      exact (dsmark_sd h3 (by omega) (flush_inv2 h2).o).mono (fun e w' hh => ⟨hh.1, hh.2, hs⟩)
     obtain ⟨E, hE0⟩ : ∃ E, E = (stepK st).1 := ⟨_, rfl⟩
     rw [← hE0] at HMk hE
     by_cases hk : E = 0
     ·subst hk
      rw [if_neg (by simp)] at hE
      have HE : Hid (stepM st = (decide (clearOk (stepK st).2 Z), clearM (stepK st).2 Z)) := hE
      clear hE hE0 hE1
      go_wp2_with (first
       | (go_at_call 49; refine HPu.out.mono ?_; rintro e w2 ⟨rfl, s2, i2, j2⟩)
       | (go_at_call 50; refine (dsflush_sd s2).mono ?_; rintro e w3 ⟨⟨v3, rfl⟩, s3⟩)
       | (go_at_call 51; refine (HMk.out _ j2 s3).mono ?_; rintro e w4 ⟨rfl, s4, n4⟩)
       | (go_at_call 52; refine (dsclear_sd Z s4 (by omega)).mono ?_; rintro e w5 ⟨rfl, s5⟩))
      go_ret
      rw [HE.out] at i2 ⊢
      exact ⟨rfl, s5, i2⟩
     ·rw [if_pos hk] at hE
      have HE : Hid (stepM st = (false, (stepK st).2)) := hE
      clear hE hE0 hE1
      go_wp2_with (first
       | (go_at_call 49; refine HPu.out.mono ?_; rintro e w2 ⟨rfl, s2, i2, j2⟩)
       | (go_at_call 50; refine (dsflush_sd s2).mono ?_; rintro e w3 ⟨⟨v3, rfl⟩, s3⟩)
       | (go_at_call 51; refine (HMk.out _ j2 s3).mono ?_; rintro e w4 ⟨rfl, s4, n4⟩))
      go_ret
      rw [HE.out] at i2 ⊢
      exact ⟨rfl, s4, i2⟩
    ·rw [if_pos hp] at hE
     have HE : Hid (stepM st = (false, (stepP st).2)) := hE
     clear hE hE1
     go_wp2_with (go_at_call 49; refine HPu.out.mono ?_; rintro e w2 ⟨rfl, s2, i2, j2⟩)
     go_ret
     rw [HE.out] at i2 ⊢
     exact ⟨rfl, s2, i2⟩
end
end Go.Proofs.YtncnkpnfmbgifaaGreat

/- What the document's run of cleaning does. -/
namespace Go.Proofs.YtncnkpnfmbgifaaGreat
open Go.RowKit
set_option linter.unusedVariables false
set_option maxRecDepth 4000
section
variable {D M : Nat → Prop} {W : World} {k : Rs} {st : St}
set_option maxHeartbeats 4000000 in
theorem dcrun_of (h : SdV D M W k st) (hi : Inv2 st) (hz : Sml st.s) :
  Calls Tryz.prog 18 #[.pointer (some ⟨k.ps, 0, none⟩)] W fun e w' => e = .returned (.int .i64 (runM (4 * st.s.z.toNat) st).1) ∧ Sd (SdO D M k) W k (runM (4 * st.s.z.toNat) st).2 w' ∧ Inv2 (runM (4 * st.s.z.toNat) st).2 := by
 obtain ⟨Z, hZ⟩ : ∃ Z : Nat, st.s.z = Z := ⟨st.s.z.toNat, by have := hi.inv.wf.right.1; omega⟩
 have hZ2 : Z ≤ 12 := by have := hz.1; omega
 rw [hZ, Int.toNat_natCast]
 have H : Hid (SdV D M W k st ∧ Inv2 st ∧ Sml st.s ∧ st.s.z = Z) := ⟨h, hi, hz, hZ⟩
 have hw4 : IntKind.i64.wrap (4 * (Z : Int)) = 4 * (Z : Int) := by rw [IntKind.wrap_i64]; omega
 clear h hi hz hZ
 go_enter Tryz.func18, Tryz.ntmps18
 go_wp2_with fail
 go_loopw [3] (fun x wr => ∃ i : Nat, x = .int .i64 i ∧ i ≤ 4 * Z ∧ Sd (SdO D M k) W k (stepN i st) wr ∧ Inv2 (stepN i st) ∧ GoN st i) (fun x _ => 4 * Z - (intOf x).toNat)
 case atStart => exact ⟨0, rfl, Nat.zero_le _, Sd.start H.out.1, H.out.2.1, fun i hi => by omega⟩
 case round =>
  obtain ⟨i, rfl, hi, sv, inv, go⟩ := hrel
  have HE : Hid (GoN st i ∧ Inv2 (stepN i st)) := ⟨go, inv⟩
  have hss : (stepN i st).s = st.s := stepN_sh i st
  obtain ⟨c0, d0⟩ : wr.cell? ⟨k.ps, 0, none⟩ = some (.pointer (some ⟨k.pd, 0, none⟩)) ∧ wr.cell? ⟨k.pd, 0, none⟩ = some (.int .i64 Z) := by
   obtain ⟨D', M', hv, _⟩ := sv
   have e := hv.dcells.1
   rw [hss, H.out.2.2.2] at e
   exact ⟨hv.cells.1, e⟩
  rcases Nat.lt_or_ge i (4 * Z) with hlt | hge
  ·have hi' : (i : Int) < 4 * (Z : Int) := by omega
   have hwi : IntKind.i64.wrap ((i : Int) + 1) = (i : Int) + 1 := by rw [IntKind.wrap_i64]; omega
   obtain ⟨b, hb⟩ : ∃ b, b = lowB (stepN i st).L st.s.r := ⟨_, rfl⟩
   have HLo : Hid (Calls Tryz.prog 56 #[.pointer (some ⟨k.ps, 0, none⟩)] wr fun e w' => e = .returned (.bool b) ∧ Sd (SdO D M k) W k (stepN i st) w') := by
    obtain ⟨D', M', hv, hD', ho'⟩ := sv
    have := dslow_of hv
    rw [hss, ← hb] at this
    exact this.mono (fun e w' hh => ⟨hh.1, Sd.under ⟨D', M', hv, hD', ho'⟩ hh.2⟩)
   obtain ⟨g, hg⟩ : ∃ g, g = (stepM (stepN i st)).1 := ⟨_, rfl⟩
   have HSt : Hid (∀ V, Sd (SdO D M k) W k (stepN i st) V → Calls Tryz.prog 15 #[.pointer (some ⟨k.ps, 0, none⟩)] V fun e w' => e = .returned (.bool g) ∧ Sd (SdO D M k) W k (stepN (i + 1) st) w' ∧ Inv2 (stepN (i + 1) st)) := fun V hs => by
    obtain ⟨D', M', hv, hD', ho'⟩ := hs
    refine (dcstep_of hv HE.out.2 (by rw [hss]; exact H.out.2.2.1)).mono ?_
    rintro e w' ⟨rfl, h2, h3⟩
    rw [← hg]
    exact ⟨rfl, Sd.next hD' ho' h2, h3⟩
   have HR : Hid ((b = false → runM (4 * Z) st = (i, stepN i st)) ∧ (b = true → g = false → runM (4 * Z) st = (i, stepN (i + 1) st)) ∧ (b = true → g = true → GoN st (i + 1)) ∧ i ≤ 48) := by
    refine ⟨fun e => ?_, fun e e2 => ?_, fun e e2 => fun n hn => ?_, by omega⟩
    ·have := runM_stop (f := 4 * Z - i) HE.out.1 (.inr (by rw [← hb]; exact e))
     rw [show i + (4 * Z - i) = 4 * Z by omega] at this
     exact this
    ·have := runM_fail (f := 4 * Z - i - 1) HE.out.1 (by rw [← hb]; exact e) (by rw [← hg]; exact e2)
     rw [show i + (4 * Z - i - 1 + 1) = 4 * Z by omega] at this
     exact this
    ·by_cases en : n = i
     ·subst en
      exact ⟨by rw [← hb]; exact e, by rw [← hg]; exact e2⟩
     ·exact HE.out.1 n (by omega)
   clear sv inv go hss hb hg
   cases b with
   | false =>
    go_wp2_with (go_at_call 56; refine HLo.out.mono ?_; rintro e w5 ⟨rfl, s5⟩)
    go_ret
    rw [HR.out.1 trivial]
    exact ⟨rfl, s5, HE.out.2⟩
   | true =>
    cases g with
    | false =>
     go_wp2_with (first
      | (go_at_call 56; refine HLo.out.mono ?_; rintro e w5 ⟨rfl, s5⟩)
      | (go_at_call 15; refine (HSt.out _ s5).mono ?_; rintro e w6 ⟨rfl, s6, i6⟩))
     go_ret
     rw [HR.out.2.1 trivial trivial]
     exact ⟨rfl, s6, i6⟩
    | true =>
     go_wp2_with (first
      | (go_at_call 56; refine HLo.out.mono ?_; rintro e w5 ⟨rfl, s5⟩)
      | (go_at_call 15; refine (HSt.out _ s5).mono ?_; rintro e w6 ⟨rfl, s6, i6⟩))
     exact ⟨⟨i + 1, by simp, by omega, s6, i6, HR.out.2.2.1 trivial trivial⟩, by simp [intOf]; omega⟩
  ·obtain rfl : i = 4 * Z := by omega
   have HR : Hid (runM (4 * Z) st = (4 * Z, stepN (4 * Z) st)) := by
    have := runM_stop (f := 0) go (.inl rfl)
    exact this
   have HS : Hid (Sd (SdO D M k) W k (stepN (4 * Z) st) wr) := sv
   clear sv inv go
   go_wp2
   go_ret
   rw [HR.out]
   exact ⟨by simp, HS.out, HE.out.2⟩
end
end Go.Proofs.YtncnkpnfmbgifaaGreat

/- Cleaning on both stores. -/
namespace Go.Proofs.YtncnkpnfmbgifaaGreat
open Go.RowKit
set_option linter.unusedVariables false
set_option maxRecDepth 4000
section
variable {B : Nat} {W w w' : World} {ps rs : Nat} {st : St} {m : Nat}
theorem pick_bo (h : Bo B W ps rs st m w) (hi : Inv2 st) (hz : Sml st.s) (hm : m < 10000) : Calls Tryz.prog 12 #[.pointer (some ⟨ps, 0, none⟩)] w fun e w1 => e = .returned (.int .i64 (pickM st)) ∧ Calls Tryz.prog 13 #[.pointer (some ⟨rs, 0, none⟩)] w1 fun e w2 => e = .returned (.int .i64 (pickM st)) ∧ Bo B W ps rs st m w2 := by
 have hb := h
 obtain ⟨D, k, D', M', k', h1, h2, h3, h4, h5, h6, h7, h8, h9⟩ := h
 have e := cpick_of h3 hi hz hm
 rw [h1] at e
 refine e.mono ?_
 rintro e w1 ⟨rfl, b1⟩
 refine ⟨rfl, ?_⟩
 have e := dcpick_of (h4.under b1) hi hz
 rw [h2] at e
 refine e.mono ?_
 rintro e w2 ⟨rfl, b2⟩
 exact ⟨rfl, (hb.under b1).under b2⟩
theorem step_bo (h : Bo B W ps rs st m w) (hi : Inv2 st) (hz : Sml st.s) (hm : 192 ≤ m ∧ m + 16 < 10000) : Calls Tryz.prog 14 #[.pointer (some ⟨ps, 0, none⟩)] w fun e w1 => e = .returned (.bool (stepM st).1) ∧ Calls Tryz.prog 15 #[.pointer (some ⟨rs, 0, none⟩)] w1 fun e w2 => e = .returned (.bool (stepM st).1) ∧ Bo B W ps rs (stepM st).2 (m + 16) w2 ∧ Inv2 (stepM st).2 := by
 obtain ⟨D, k, D', M', k', h1, h2, h3, h4, h5, h6, h7, h8, h9⟩ := h
 have e := cstep_of h3 hi hz hm.2
 rw [h1] at e
 refine e.mono ?_
 rintro e w1 ⟨rfl, sv, i2⟩
 have hs := fun w2 => Bo.step (w2 := w2) h1 h2 h3 h4 h5 h6 h7 h8 sv
 refine ⟨rfl, ?_⟩
 have e := dcstep_of (hs w1).1 hi hz
 rw [h2] at e
 refine e.mono ?_
 rintro e w2 ⟨rfl, sd, _⟩
 have hsz := size_S i2.inv (by rw [stepM_sh]; exact hz)
 exact ⟨rfl, (hs w2).2 sd (by omega), i2⟩
theorem run_bo (h : Bo B W ps rs st m w) (hi : Inv2 st) (hz : Sml st.s) (hm : 192 ≤ m ∧ m + 800 < 10000) : Calls Tryz.prog 17 #[.pointer (some ⟨ps, 0, none⟩)] w fun e w1 => e = .returned (.int .i64 (runM (4 * st.s.z.toNat) st).1) ∧ Calls Tryz.prog 18 #[.pointer (some ⟨rs, 0, none⟩)] w1 fun e w2 => e = .returned (.int .i64 (runM (4 * st.s.z.toNat) st).1) ∧ Bo B W ps rs (runM (4 * st.s.z.toNat) st).2 (m + 800) w2 := by
 obtain ⟨D, k, D', M', k', h1, h2, h3, h4, h5, h6, h7, h8, h9⟩ := h
 have e := crun_of h3 hi hz hm.2
 rw [h1] at e
 refine e.mono ?_
 rintro e w1 ⟨rfl, sv, i2⟩
 have hs := fun w2 => Bo.step (w2 := w2) h1 h2 h3 h4 h5 h6 h7 h8 sv
 refine ⟨rfl, ?_⟩
 have e := dcrun_of (hs w1).1 hi hz
 rw [h2] at e
 refine e.mono ?_
 rintro e w2 ⟨rfl, sd, _⟩
 have hsz := size_S i2.inv (by rw [runM_sh]; exact hz)
 exact ⟨rfl, (hs w2).2 sd (by omega)⟩
end
theorem both_bo (s0 : Sh) (a1 : Option Addr) (n1 c1 : Nat) (x1 : List Od) (w V : World) (hz : ShF s0) (hpr : OdsR w a1 n1 x1) (hof : ∀ o ∈ x1, Fits8 o.k ∧ F64 o.z) (hl : n1 ≤ 40 ∧ ∀ o ∈ x1, o.l.length ≤ 30 ∧ ∀ p ∈ o.l, p.d.length ≤ 200) (hV : Below w.heap.size w V) (hr : RightS s0) :
  Calls Tryz.prog 11 #[.agg #[.int .i64 s0.z, .int .i64 s0.zb, .int .i64 s0.b, .int .i64 s0.r], .slice a1 n1 c1] V fun e w' => ∃ ps rs st, e = .returned (.tuple #[.pointer (some ⟨ps, 0, none⟩), .pointer (some ⟨rs, 0, none⟩)]) ∧ Bo w.heap.size w ps rs st 1200 w' ∧ Inv2 st ∧ st.s = s0 := by
 refine (both_of s0 a1 n1 c1 x1 w V hz hpr hof hl hV).mono ?_
 rintro e w' ⟨b1, ⟨hn, _⟩ | ⟨_, ps, rs, st, rfl, hbo, h2, h3, _⟩⟩
 ·exact (hn hr).elim
 ·exact ⟨ps, rs, st, rfl, hbo.mono (by have := hl.1; omega), h2, h3⟩
end Go.Proofs.YtncnkpnfmbgifaaGreat
