/- What one call of Zones does. -/
import Derived.Test.YtlkpglppkpalgaaZRd
namespace Go.Proofs.Ytlkpglppkpalgaa
open Go.RowKit Go.Shelf
set_option linter.unusedVariables false
set_option maxRecDepth 4000

theorem cutW_all {S : Nat} : ∀ {bs : List (List Int)}, (∀ D ∈ bs, D.length = S) → cutW S bs = bs
  | [], _ => rfl
  | D :: bs, h => by
    have ih := cutW_all (bs := bs) (fun E hE => h E (List.mem_cons_of_mem _ hE))
    have hD := h D (List.mem_cons_self ..)
    simp only [cutW] at ih ⊢
    rw [List.takeWhile_cons, hD]
    simp [ih]
theorem ZsAt.nil (O : Nat → Prop) (W : World) : ZsAt O W (.slice none 0 0) [] := ⟨[], World.ownsRow_nil W 0 49 2, (fun r h => by cases h), rfl, (fun i u z h => by simp at h), (fun i j u v r h => by simp at h), by simp⟩
theorem ZsAt.slice {O : Nat → Prop} {W : World} {v : Value} {zs : List Zn} (h : ZsAt O W v zs) : ∃ a c, v = .slice a zs.length c := by
  obtain ⟨vs, a, _⟩ := h; exact own_slice a
theorem ZsAt.under {O : Nat → Prop} {W W' : World} {v : Value} {zs : List Zn} (h : ZsAt O W v zs) (hb : Below W.heap.size W W') : ZsAt O W' v zs := h.out (below_out Non hb) (fun _ _ e => e)
/-- One zone more. Its row lies beyond m, all that was there below. -/
theorem app_zone {O : Nat → Prop} {W0 W : World} {v u : Value} {zs : List Zn} {bs : List (List Int)} {d : Int} (h0 : ZsAt O W0 v zs) (hb0 : Below W0.heap.size W0 W) (hr : RowAt (fun x => W0.heap.size ≤ x) W u bs) (hu : u.oneCell' = true) (hl : zs.length + 1 ≤ 1000) (hmO : ∀ x, W0.heap.size ≤ x → O x) :
    ∃ a' c' w', (Builtin.append_ #[40, 40] 40 #[v, .slice (some ⟨W.heap.size, 0, none⟩) 1 1]).run Try.prog (W.alloc (.cells #[u, .int .i64 d] 49)) = .ok (.slice a' (zs.length + 1) c') w' ∧
      ZsAt O w' (.slice a' (zs.length + 1) c') (zs ++ [(bs, d)]) ∧ (W.alloc (.cells #[u, .int .i64 d] 49)).grownBy w' v.ownBlock := by
  obtain ⟨vs, q1, r2, r3, q4, r5, r6⟩ := h0
  have hm0 := hb0.size
  have ho0 := below_out Non hb0
  have r1 := ho0.own q1 (fun _ _ e => e)
  have r4 : ∀ (i : Nat) (u : Value) (z : Zn), vs[i]? = some u → zs[i]? = some z → RowAt O W u z.1 := fun i u z h1 h2 => (q4 i u z h1 h2).out ho0 (fun _ _ e => e) (fun _ _ _ _ e => e)
  obtain ⟨uv, u1, u2, u3, u4⟩ := id hr
  have hb : Below W.heap.size W (W.alloc (.cells #[u, .int .i64 d] 49)) := (Below.refl _ _).alloc (Nat.le_refl _) _
  have hbk : Blk (W.alloc (.cells #[u, .int .i64 d] 49)) W.heap.size [u, .int .i64 d] 49 := Blk.new' rfl rfl
  have hA := run_app (t := 40) (ty := 40) Try.underlying40 Try.zero_zone rfl (by decide) (by decide) (r1.alloc (.cells #[u, .int .i64 d] 49)) ⟨W.heap.size, 0, none⟩ 1 1 [u, .int .i64 d] rfl (by
    intro j x hj
    rw [Addr.add_mid, Nat.zero_add, hbk.cell]
    exact hj) (by intro x hx; simp at hx; rcases hx with rfl | rfl; exact hu; rfl) (by omega)
  obtain ⟨v', w', h2, h3, h4, h5⟩ := hA
  obtain ⟨a', c', rfl⟩ := own_slice h3
  have hsz := h4.size
  simp at hsz
  have hkeep : ∀ {O' : Nat → Prop} {y : Value} {cs : List (List Int)}, RowAt O' W y cs → RowAt O' w' y cs := by
    intro O' y cs hy
    have hy1 := hy.out (below_out Non hb) (fun _ _ e => e) (fun _ _ _ _ e => e)
    obtain ⟨yv, y1, _⟩ := id hy1
    refine hy1.out (grown_out h4) (fun r e1 e2 => ?_) (fun c cur _ hc e => ?_)
    · obtain ⟨cur, hc⟩ := own_at_block y1 e1
      obtain ⟨cur', hc'⟩ := own_at_block (r1.alloc _) e2
      rw [hc] at hc'; cases hc'
    · obtain ⟨cur', hc'⟩ := own_at_block (r1.alloc (.cells #[u, .int .i64 d] 49)) e
      rw [hc] at hc'; cases hc'
  refine ⟨a', c', w', h2, ⟨vs ++ [u], ?_, ?_, by simp [r3], fun i y z e1 e2 => ?_, fun i j y x r e1 e2 s1 s2 => ?_, by simp; omega⟩, h4⟩
  · rw [← zcells_snoc vs zs u (bs, d) r3]; simpa using h3
  · intro r hr
    rcases h5 with h5 | h5
    · rw [h5] at hr; exact r2 r hr
    · have := h5 r hr; simp at this; exact hmO r (by omega)
  · by_cases hlt : i < zs.length
    · rw [List.getElem?_append_left (by omega)] at e1
      rw [List.getElem?_append_left hlt] at e2
      exact hkeep (r4 i y z e1 e2)
    · have hi : i = zs.length := by have := (List.getElem?_eq_some_iff.1 e2).1; simp at this; omega
      subst hi
      simp at e2
      rw [← r3] at e1
      simp at e1
      subst e1; subst e2
      exact (hkeep hr).mono (fun x hx _ => hmO x hx)
  · have hnew : ∀ (i : Nat) (y : Value) (r : Nat), vs[i]? = some y → y.ownBlock = some r → u.ownBlock = some r → False := by
      intro i y r hy e1 e2
      have hlt : i < zs.length := by rw [← r3]; exact (List.getElem?_eq_some_iff.1 hy).1
      obtain ⟨_, y1, _⟩ := q4 i y zs[i] hy (by simp [hlt])
      have := (y1.lt r e1).2
      have := u2 r e2
      omega
    by_cases hi : i < vs.length
    · rw [List.getElem?_append_left hi] at e1
      by_cases hj : j < vs.length
      · rw [List.getElem?_append_left hj] at e2
        exact r5 i j y x r e1 e2 s1 s2
      · have hj' : j = vs.length := by have := (List.getElem?_eq_some_iff.1 e2).1; simp at this; omega
        subst hj'
        simp at e2; subst e2
        exact (hnew i y r e1 s1 s2).elim
    · have hi' : i = vs.length := by have := (List.getElem?_eq_some_iff.1 e1).1; simp at this; omega
      subst hi'
      simp at e1; subst e1
      by_cases hj : j < vs.length
      · rw [List.getElem?_append_left hj] at e2
        exact (hnew j x r e2 s2 s1).elim
      · have := (List.getElem?_eq_some_iff.1 e2).1; simp at this; omega
def ZonesE (W : World) (zs : List Zn) (e : Ending) (w' : World) : Prop := ∃ v, e = .returned v ∧ ZsAt (fun x => W.heap.size ≤ x) w' v zs ∧ Below W.heap.size W w'

section
variable {O : Nat → Prop} {W : World} {p : Nat} {s : Sh} {zs : List Zn}
set_option maxHeartbeats 4000000 in
theorem zones_of (hd : Dv 69 O W p s zs) (hw : Wf s zs) : Calls Try.prog 18 #[.pointer (some ⟨p, 0, none⟩)] W (ZonesE W zs) := by
  obtain ⟨g, cz, vs, hv⟩ := hd
  have c4 := hv.pcell.2.2.2.2
  have hsm := hv.small
  have hsb := power_bounds hw.right.2.2.2.2.1
  obtain ⟨S, hS⟩ : ∃ S : Nat, s.b = S := ⟨s.b.toNat, by omega⟩
  have HV : Hid (DvV 69 O W p s zs g cz vs ∧ Wf s zs ∧ s.b = S) := ⟨hv, hw, hS⟩
  obtain ⟨i0, hi, hz0, hz1, hz2⟩ := info_parts Try.zero_zone
  obtain ⟨w1, r1, o1, g1⟩ := run_make_own (P := Try.prog) W W.heap.size 40 49 i0 _ 2 Try.underlying40 hi hz0 hz1 .i64 .i64 zs.length (by rw [hz2]; omega) (by unfold maxLen; omega) (Nat.le_refl _)
  have hb1 : Below W.heap.size W w1 := (Below.refl _ _).grown g1 (Nat.le_refl _) (fun k e => by cases e)
  have c41 := (hb1.cell (old_block c4)).trans c4
  have HZ : Hid (ZsAt (fun x => W.heap.size ≤ x) w1 (.slice (some ⟨W.heap.size, 0, none⟩) 0 zs.length) [] ∧ Below W.heap.size W w1) := ⟨⟨[], own_zero o1, (fun r e => by cases e; exact Nat.le_refl _), rfl, (fun i u z h => by simp at h), (fun i j u v r h => by simp at h), by simp⟩, hb1⟩
  clear hv hw hi hz0 hz1 hz2 o1 g1 hb1
  generalize hN : zs.length = N at *
  go_enter Try.func18, Try.ntmps18
  go_wp2
  go_loopw [3, 17] (fun o x wr => ∃ i : Nat, x = .int .i64 i ∧ i ≤ N ∧ Below W.heap.size W wr ∧ ZsAt (fun x => W.heap.size ≤ x) wr o (zs.take i)) (fun o x wr => N - (intOf x).toNat)
  case atStart => exact ⟨0, rfl, Nat.zero_le _, HZ.out.2, by simpa using HZ.out.1⟩
  case round =>
    obtain ⟨i, rfl, hi, hb, ho⟩ := hrel
    have hl : (zs.take i).length = i := by simp; omega
    obtain ⟨oa, oc, hoe⟩ := ho.slice
    rw [hl] at hoe
    subst hoe
    rcases Nat.lt_or_ge i N with hlt | hge
    · obtain ⟨z, hz⟩ : ∃ z, zs[i]? = some z := ⟨zs[i]'(by omega), by simp⟩
      obtain ⟨q, hq⟩ : ∃ q, q = wr.heap.size := ⟨_, rfl⟩
      obtain ⟨ua, uc, hu, hr, z0, z1⟩ := (HV.out.1.under hb).at hz
      have hi' : (i : Int) < (N : Int) := by omega
      have hw1 : IntKind.i64.wrap ((i : Int) + 1) = (i : Int) + 1 := by rw [IntKind.wrap_i64]; omega
      have HI : Hid (zs[i]? = some z ∧ Below W.heap.size W wr ∧ ZsAt (fun x => W.heap.size ≤ x) wr (.slice oa i oc) (zs.take i) ∧ q = wr.heap.size ∧ vs[i]? = some (.slice ua z.1.length uc)) := ⟨hz, hb, ho, hq, hu⟩
      have hX : Blk (wr.alloc (.cells #[.slice ua z.1.length uc, .int .i64 z.2] 49)) q [.slice ua z.1.length uc, .int .i64 z.2] 49 := Blk.new' hq.symm rfl
      have HX : Hid (Blk (wr.alloc (.cells #[.slice ua z.1.length uc, .int .i64 z.2] 49)) q [.slice ua z.1.length uc, .int .i64 z.2] 49 ∧ Below wr.heap.size wr (wr.alloc (.cells #[.slice ua z.1.length uc, .int .i64 z.2] 49))) := ⟨hX, (Below.refl _ _).alloc (Nat.le_refl _) _⟩
      clear hX hz hb ho hr hu c4 c41
      go_upto_region 5 with fail
      rw [← hq]
      generalize hVV : World.alloc _ _ = V at HX ⊢
      clear hVV hq z0 z1
      have hvV := HV.out.1.under (HI.out.2.1.trans (HX.out.2.mono HI.out.2.1.size))
      have p2 := hvV.pcell.2.2.1
      rw [HV.out.2.2] at p2
      have x0 : V.cell? ⟨q, 0, none⟩ = some (.slice ua z.1.length uc) := HX.out.1.cell 0
      have x1 : V.cell? ⟨q, 1, none⟩ = some (.int .i64 z.2) := HX.out.1.cell 1
      have hcw : cutW S z.1 = z.1 := cutW_all (fun D hD => by have := (HV.out.2.1.zone z (List.mem_of_getElem? HI.out.1)).2.2.2 D hD; have := HV.out.2.2; omega)
      have HC : Hid (Calls Try.prog 41 #[.agg #[.slice ua z.1.length uc, .int .i64 z.2], .int .i64 S] V.drew (Copied V.drew z.1 S z.2)) := copied_of ua z.1.length uc S z.2 z.1 V.drew (((hvV.rows i _ z HI.out.2.2.2.2 HI.out.1).bsin (HV.out.2.1.short z (List.mem_of_getElem? HI.out.1))).below (Below.refl _ _).drew) (by omega) (by omega)
      have HA : Hid (∀ w3 va vc, RowAt (fun x => V.heap.size ≤ x) w3 (.slice va z.1.length vc) z.1 → Below V.heap.size V w3 → ∃ a' c' w', (Builtin.append_ #[40, 40] 40 #[.slice oa i oc, .slice (some ⟨w3.heap.size, 0, none⟩) 1 1]).run Try.prog (w3.alloc (.cells #[.slice va z.1.length vc, .int .i64 z.2] 49)) = .ok (.slice a' (i + 1) c') w' ∧ ZsAt (fun x => W.heap.size ≤ x) w' (.slice a' (i + 1) c') (zs.take (i + 1)) ∧ Below W.heap.size W w') := by
        intro w3 va vc h1 h2
        have hbV := HI.out.2.1.trans (HX.out.2.mono HI.out.2.1.size)
        have := app_zone (d := z.2) (HI.out.2.2.1.under HX.out.2) h2 h1 rfl (by rw [hl]; omega) (fun x hx => by have := hbV.size; omega)
        rw [hl] at this
        obtain ⟨a', c', w', e1, e2, e3⟩ := this
        refine ⟨a', c', w', e1, by rw [take_snoc HI.out.1]; exact e2, ?_⟩
        have hsz := h2.size
        have hsz2 := hbV.size
        refine ((hbV.trans (h2.mono hsz2)).alloc (by omega) _).grown e3 (by simp; omega) (fun k e => ?_)
        obtain ⟨vs9, q1, q2, _⟩ := HI.out.2.2.1
        exact q2 k e
      have HW : Hid (cutW S z.1 = z.1) := hcw
      clear hvV hcw
      refine wp_region_noPanic ?_
      go_region_law (first
        | (go_simp; go_at_call 41; refine HC.out.mono ?_; rintro e w3 ⟨v3, rfl, r3, b3⟩; rw [HW.out] at r3; obtain ⟨va, vc, hv3⟩ := r3.slice; subst hv3; obtain ⟨a9, c9, w9, e9, z9, b9⟩ := HA.out w3 va vc r3 ⟨b3.os, b3.tape, b3.output, b3.size, b3.block⟩)
        | (refine step_append_run rfl (.tmp 21) (.tmp 29) 40 40 rfl _ _ rfl rfl _ _ e9 ?_))
      all_goals
        have HF : Hid (ZsAt (fun x => W.heap.size ≤ x) w9 (.slice a9 (i + 1) c9) (zs.take (i + 1)) ∧ Below W.heap.size W w9) := ⟨z9, b9⟩
        clear e9 z9 b9 r3 b3 x0 x1 p2
        refine NoPanic.normal ?_
        go_wp2
        go_roundw
        case rel => exact ⟨i + 1, by simp, by omega, HF.out.2, HF.out.1⟩
        case measure => simp [intOf]; omega
    · obtain rfl : i = N := by omega
      have HS : Hid (ZsAt (fun x => W.heap.size ≤ x) wr (.slice oa i oc) zs ∧ Below W.heap.size W wr) := ⟨by rw [List.take_of_length_le (by omega)] at ho; exact ho, hb⟩
      clear hb ho c4 c41
      go_wp2
      go_ret
      exact ⟨_, rfl, HS.out.1, HS.out.2⟩
end
end Go.Proofs.Ytlkpglppkpalgaa
