/- Texts of this seat, one behind the other: ZZn, CkHeavy, CkZOpen. -/
import Derived.Test.YteokhkoaieibmaaJ12
import Derived.Test.YteokhkoaieibmaaJ15
/- What one call of Zones does. -/
namespace Go.Proofs.Yteokhkoaieibmaa
open Go.RowKit Go.Shelf
set_option linter.unusedVariables false
set_option maxRecDepth 4000

theorem cutW_all {S : Nat} : ∀ {bs : List (List Int)}, (∀ D ∈ bs, D.length = S) → cutW S bs = bs
  | [], _ => rfl
  | D :: bs, h => by
    have ih := cutW_all (bs := bs) (fun E hE => h E (List.mem_cons_of_mem _ hE))
    have hD := h D (List.mem_cons_self ..)
    simp only [cutW] at ih ⊢
    rw [List.takeWhile_cons, hD]
    simp [ih]
theorem ZsAt.nil (O : Nat → Prop) (W : World) : ZsAt O W (.slice none 0 0) [] := ⟨[], World.ownsRow_nil W 0 76 2, (fun r h => by cases h), rfl, (fun i u z h => by simp at h), (fun i j u v r h => by simp at h), by simp⟩
theorem ZsAt.slice {O : Nat → Prop} {W : World} {v : Value} {zs : List Zn} (h : ZsAt O W v zs) : ∃ a c, v = .slice a zs.length c := by
  obtain ⟨vs, a, _⟩ := h; exact own_slice a
theorem ZsAt.under {O : Nat → Prop} {W W' : World} {v : Value} {zs : List Zn} (h : ZsAt O W v zs) (hb : Below W.heap.size W W') : ZsAt O W' v zs := h.out (below_out Non hb) (fun _ _ e => e)
/-- One zone more. Its row lies beyond m, all that was there below. -/
theorem app_zone {O : Nat → Prop} {W0 W : World} {v u : Value} {zs : List Zn} {bs : List (List Int)} {d : Int} (h0 : ZsAt O W0 v zs) (hb0 : Below W0.heap.size W0 W) (hr : RowAt (fun x => W0.heap.size ≤ x) W u bs) (hu : u.oneCell' = true) (hl : zs.length + 1 ≤ 1000) (hmO : ∀ x, W0.heap.size ≤ x → O x) :
    ∃ a' c' w', (Builtin.append_ #[47, 47] 47 #[v, .slice (some ⟨W.heap.size, 0, none⟩) 1 1]).run Try.prog (W.alloc (.cells #[u, .int .i64 d] 76)) = .ok (.slice a' (zs.length + 1) c') w' ∧
      ZsAt O w' (.slice a' (zs.length + 1) c') (zs ++ [(bs, d)]) ∧ (W.alloc (.cells #[u, .int .i64 d] 76)).grownBy w' v.ownBlock := by
  obtain ⟨vs, q1, r2, r3, q4, r5, r6⟩ := h0
  have hm0 := hb0.size
  have ho0 := below_out Non hb0
  have r1 := ho0.own q1 (fun _ _ e => e)
  have r4 : ∀ (i : Nat) (u : Value) (z : Zn), vs[i]? = some u → zs[i]? = some z → RowAt O W u z.1 := fun i u z h1 h2 => (q4 i u z h1 h2).out ho0 (fun _ _ e => e) (fun _ _ _ _ e => e)
  obtain ⟨uv, u1, u2, u3, u4⟩ := id hr
  have hb : Below W.heap.size W (W.alloc (.cells #[u, .int .i64 d] 76)) := (Below.refl _ _).alloc (Nat.le_refl _) _
  have hbk : Blk (W.alloc (.cells #[u, .int .i64 d] 76)) W.heap.size [u, .int .i64 d] 76 := Blk.new' rfl rfl
  have hA := run_app (t := 47) (ty := 47) Try.underlying47 Try.zero_zone rfl (by decide) (by decide) (r1.alloc (.cells #[u, .int .i64 d] 76)) ⟨W.heap.size, 0, none⟩ 1 1 [u, .int .i64 d] rfl (by
    intro j x hj
    rw [Addr.add_mid, Nat.zero_add, hbk.cell]
    exact hj) (by intro x hx; simp at hx; rcases hx with rfl | rfl; exact hu; rfl) (by omega)
  obtain ⟨v', w', h2, h3, h4, h5⟩ := hA
  obtain ⟨a', c', rfl⟩ := own_slice h3
  have hsz := h4.size
  simp at hsz
  have hkeep : ∀ {O' : Nat → Prop} {y : Value} {cs : List (List Int)}, RowAt O' W y cs → RowAt O' w' y cs := by
    intro O' y cs hy
    have hy1 := hy.out (below_out Non hb) (fun _ _ e => e) (fun _ _ _ _ e => e)
    obtain ⟨yv, y1, _⟩ := id hy1
    refine hy1.out (grown_out h4) (fun r e1 e2 => ?_) (fun c cur _ hc e => ?_)
    · obtain ⟨cur, hc⟩ := own_at_block y1 e1
      obtain ⟨cur', hc'⟩ := own_at_block (r1.alloc _) e2
      rw [hc] at hc'; cases hc'
    · obtain ⟨cur', hc'⟩ := own_at_block (r1.alloc (.cells #[u, .int .i64 d] 76)) e
      rw [hc] at hc'; cases hc'
  refine ⟨a', c', w', h2, ⟨vs ++ [u], ?_, ?_, by simp [r3], fun i y z e1 e2 => ?_, fun i j y x r e1 e2 s1 s2 => ?_, by simp; omega⟩, h4⟩
  · rw [← zcells_snoc vs zs u (bs, d) r3]; simpa using h3
  · intro r hr
    rcases h5 with h5 | h5
    · rw [h5] at hr; exact r2 r hr
    · have := h5 r hr; simp at this; exact hmO r (by omega)
  · by_cases hlt : i < zs.length
    · rw [List.getElem?_append_left (by omega)] at e1
      rw [List.getElem?_append_left hlt] at e2
      exact hkeep (r4 i y z e1 e2)
    · have hi : i = zs.length := by have := (List.getElem?_eq_some_iff.1 e2).1; simp at this; omega
      subst hi
      simp at e2
      rw [← r3] at e1
      simp at e1
      subst e1; subst e2
      exact (hkeep hr).mono (fun x hx _ => hmO x hx)
  · have hnew : ∀ (i : Nat) (y : Value) (r : Nat), vs[i]? = some y → y.ownBlock = some r → u.ownBlock = some r → False := by
      intro i y r hy e1 e2
      have hlt : i < zs.length := by rw [← r3]; exact (List.getElem?_eq_some_iff.1 hy).1
      obtain ⟨_, y1, _⟩ := q4 i y zs[i] hy (by simp [hlt])
      have := (y1.lt r e1).2
      have := u2 r e2
      omega
    by_cases hi : i < vs.length
    · rw [List.getElem?_append_left hi] at e1
      by_cases hj : j < vs.length
      · rw [List.getElem?_append_left hj] at e2
        exact r5 i j y x r e1 e2 s1 s2
      · have hj' : j = vs.length := by have := (List.getElem?_eq_some_iff.1 e2).1; simp at this; omega
        subst hj'
        simp at e2; subst e2
        exact (hnew i y r e1 s1 s2).elim
    · have hi' : i = vs.length := by have := (List.getElem?_eq_some_iff.1 e1).1; simp at this; omega
      subst hi'
      simp at e1; subst e1
      by_cases hj : j < vs.length
      · rw [List.getElem?_append_left hj] at e2
        exact (hnew j x r e2 s2 s1).elim
      · have := (List.getElem?_eq_some_iff.1 e2).1; simp at this; omega
def ZonesE (W : World) (zs : List Zn) (e : Ending) (w' : World) : Prop := ∃ v, e = .returned v ∧ ZsAt (fun x => W.heap.size ≤ x) w' v zs ∧ Below W.heap.size W w'

section
variable {O : Nat → Prop} {W : World} {p : Nat} {s : Sh} {zs : List Zn}
set_option maxHeartbeats 4000000 in
theorem zones_of (hd : Dv 104 O W p s zs) (hw : Wf s zs) : Calls Try.prog 27 #[.pointer (some ⟨p, 0, none⟩)] W (ZonesE W zs) := by
  obtain ⟨g, cz, vs, hv⟩ := hd
  have c4 := hv.pcell.2.2.2.2
  have hsm := hv.small
  have hsb := power_bounds hw.right.2.2.2.2.1
  obtain ⟨S, hS⟩ : ∃ S : Nat, s.b = S := ⟨s.b.toNat, by omega⟩
  have HV : Hid (DvV 104 O W p s zs g cz vs ∧ Wf s zs ∧ s.b = S) := ⟨hv, hw, hS⟩
  obtain ⟨i0, hi, hz0, hz1, hz2⟩ := info_parts Try.zero_zone
  obtain ⟨w1, r1, o1, g1⟩ := run_make_own (P := Try.prog) W W.heap.size 47 76 i0 _ 2 Try.underlying47 hi hz0 hz1 .i64 .i64 zs.length (by rw [hz2]; omega) (by unfold maxLen; omega) (Nat.le_refl _)
  have hb1 : Below W.heap.size W w1 := (Below.refl _ _).grown g1 (Nat.le_refl _) (fun k e => by cases e)
  have c41 := (hb1.cell (old_block c4)).trans c4
  have HZ : Hid (ZsAt (fun x => W.heap.size ≤ x) w1 (.slice (some ⟨W.heap.size, 0, none⟩) 0 zs.length) [] ∧ Below W.heap.size W w1) := ⟨⟨[], own_zero o1, (fun r e => by cases e; exact Nat.le_refl _), rfl, (fun i u z h => by simp at h), (fun i j u v r h => by simp at h), by simp⟩, hb1⟩
  clear hv hw hi hz0 hz1 hz2 o1 g1 hb1
  generalize hN : zs.length = N at *
  go_enter Try.func27, Try.ntmps27
  go_wp2
  go_loopw [3, 17] (fun o x wr => ∃ i : Nat, x = .int .i64 i ∧ i ≤ N ∧ Below W.heap.size W wr ∧ ZsAt (fun x => W.heap.size ≤ x) wr o (zs.take i)) (fun o x wr => N - (intOf x).toNat)
  case atStart => exact ⟨0, rfl, Nat.zero_le _, HZ.out.2, by simpa using HZ.out.1⟩
  case round =>
    obtain ⟨i, rfl, hi, hb, ho⟩ := hrel
    have hl : (zs.take i).length = i := by simp; omega
    obtain ⟨oa, oc, hoe⟩ := ho.slice
    rw [hl] at hoe
    subst hoe
    rcases Nat.lt_or_ge i N with hlt | hge
    · obtain ⟨z, hz⟩ : ∃ z, zs[i]? = some z := ⟨zs[i]'(by omega), by simp⟩
      obtain ⟨q, hq⟩ : ∃ q, q = wr.heap.size := ⟨_, rfl⟩
      obtain ⟨ua, uc, hu, hr, z0, z1⟩ := (HV.out.1.under hb).at hz
      have hi' : (i : Int) < (N : Int) := by omega
      have hw1 : IntKind.i64.wrap ((i : Int) + 1) = (i : Int) + 1 := by rw [IntKind.wrap_i64]; omega
      have HI : Hid (zs[i]? = some z ∧ Below W.heap.size W wr ∧ ZsAt (fun x => W.heap.size ≤ x) wr (.slice oa i oc) (zs.take i) ∧ q = wr.heap.size ∧ vs[i]? = some (.slice ua z.1.length uc)) := ⟨hz, hb, ho, hq, hu⟩
      have hX : Blk (wr.alloc (.cells #[.slice ua z.1.length uc, .int .i64 z.2] 76)) q [.slice ua z.1.length uc, .int .i64 z.2] 76 := Blk.new' hq.symm rfl
      have HX : Hid (Blk (wr.alloc (.cells #[.slice ua z.1.length uc, .int .i64 z.2] 76)) q [.slice ua z.1.length uc, .int .i64 z.2] 76 ∧ Below wr.heap.size wr (wr.alloc (.cells #[.slice ua z.1.length uc, .int .i64 z.2] 76))) := ⟨hX, (Below.refl _ _).alloc (Nat.le_refl _) _⟩
      clear hX hz hb ho hr hu c4 c41
      go_upto_region 5 with fail
      rw [← hq]
      generalize hVV : World.alloc _ _ = V at HX ⊢
      clear hVV hq z0 z1
      have hvV := HV.out.1.under (HI.out.2.1.trans (HX.out.2.mono HI.out.2.1.size))
      have p2 := hvV.pcell.2.2.1
      rw [HV.out.2.2] at p2
      have x0 : V.cell? ⟨q, 0, none⟩ = some (.slice ua z.1.length uc) := HX.out.1.cell 0
      have x1 : V.cell? ⟨q, 1, none⟩ = some (.int .i64 z.2) := HX.out.1.cell 1
      have hcw : cutW S z.1 = z.1 := cutW_all (fun D hD => by have := (HV.out.2.1.zone z (List.mem_of_getElem? HI.out.1)).2.2.2 D hD; have := HV.out.2.2; omega)
      have HC : Hid (Calls Try.prog 57 #[.agg #[.slice ua z.1.length uc, .int .i64 z.2], .int .i64 S] V.drew (Copied V.drew z.1 S z.2)) := copied_of ua z.1.length uc S z.2 z.1 V.drew (((hvV.rows i _ z HI.out.2.2.2.2 HI.out.1).bsin (HV.out.2.1.short z (List.mem_of_getElem? HI.out.1))).below (Below.refl _ _).drew) (by omega) (by omega)
      have HA : Hid (∀ w3 va vc, RowAt (fun x => V.heap.size ≤ x) w3 (.slice va z.1.length vc) z.1 → Below V.heap.size V w3 → ∃ a' c' w', (Builtin.append_ #[47, 47] 47 #[.slice oa i oc, .slice (some ⟨w3.heap.size, 0, none⟩) 1 1]).run Try.prog (w3.alloc (.cells #[.slice va z.1.length vc, .int .i64 z.2] 76)) = .ok (.slice a' (i + 1) c') w' ∧ ZsAt (fun x => W.heap.size ≤ x) w' (.slice a' (i + 1) c') (zs.take (i + 1)) ∧ Below W.heap.size W w') := by
        intro w3 va vc h1 h2
        have hbV := HI.out.2.1.trans (HX.out.2.mono HI.out.2.1.size)
        have := app_zone (d := z.2) (HI.out.2.2.1.under HX.out.2) h2 h1 rfl (by rw [hl]; omega) (fun x hx => by have := hbV.size; omega)
        rw [hl] at this
        obtain ⟨a', c', w', e1, e2, e3⟩ := this
        refine ⟨a', c', w', e1, by rw [take_snoc HI.out.1]; exact e2, ?_⟩
        have hsz := h2.size
        have hsz2 := hbV.size
        refine ((hbV.trans (h2.mono hsz2)).alloc (by omega) _).grown e3 (by simp; omega) (fun k e => ?_)
        obtain ⟨vs9, q1, q2, _⟩ := HI.out.2.2.1
        exact q2 k e
      have HW : Hid (cutW S z.1 = z.1) := hcw
      clear hvV hcw
      refine wp_region_noPanic ?_
      go_region_law (first
        | (go_simp; go_at_call 57; refine HC.out.mono ?_; rintro e w3 ⟨v3, rfl, r3, b3⟩; rw [HW.out] at r3; obtain ⟨va, vc, hv3⟩ := r3.slice; subst hv3; obtain ⟨a9, c9, w9, e9, z9, b9⟩ := HA.out w3 va vc r3 ⟨b3.os, b3.tape, b3.output, b3.size, b3.block⟩)
        | (refine step_append_run rfl (.tmp 21) (.tmp 29) 47 47 rfl _ _ rfl rfl _ _ e9 ?_))
      all_goals
        have HF : Hid (ZsAt (fun x => W.heap.size ≤ x) w9 (.slice a9 (i + 1) c9) (zs.take (i + 1)) ∧ Below W.heap.size W w9) := ⟨z9, b9⟩
        clear e9 z9 b9 r3 b3 x0 x1 p2
        refine NoPanic.normal ?_
        go_wp2
        go_roundw
        case rel => exact ⟨i + 1, by simp, by omega, HF.out.2, HF.out.1⟩
        case measure => simp [intOf]; omega
    · obtain rfl : i = N := by omega
      have HS : Hid (ZsAt (fun x => W.heap.size ≤ x) wr (.slice oa i oc) zs ∧ Below W.heap.size W wr) := ⟨by rw [List.take_of_length_le (by omega)] at ho; exact ho, hb⟩
      clear hb ho c4 c41
      go_wp2
      go_ret
      exact ⟨_, rfl, HS.out.1, HS.out.2⟩
end
end Go.Proofs.Yteokhkoaieibmaa

/- A law's bound of zones that come in (cut out of the zones' own text, with this chapter's bound). -/
namespace Go.Proofs.Yteokhkoaieibmaa
open Go.RowKit
set_option linter.unusedVariables false
set_option maxRecDepth 4000

def LightZ (zs : List Zn) : Prop := zs.length ≤ 200 ∧ ∀ z ∈ zs, z.1.length ≤ 200 ∧ ∀ D ∈ z.1, D.length ≤ 200
theorem ZsRaw.light {W : World} {a : Option Addr} {n : Nat} {zs : List Zn} (h : ZsRaw W a n zs) (hl : LightZ zs) : ZsIn W a n zs := by
  obtain ⟨h1, h2, h3⟩ := h
  refine ⟨h1, by have := hl.1; omega, ?_⟩
  rcases h3 with h3 | ⟨b, off, ha, hc⟩
  · exact .inl h3
  · refine .inr ⟨b, off, ha, fun i z hi => ?_⟩
    obtain ⟨A, L, C, h4, h5, h6⟩ := hc i z hi
    have hz := hl.2 z (List.mem_of_getElem? hi)
    refine ⟨A, L, C, h4, h5, h6.1, by have := hz.1; have := h6.1; omega, ?_⟩
    rcases h6.2.2 with h7 | ⟨b', off', hA, hc'⟩
    · exact .inl h7
    · refine .inr ⟨b', off', hA, fun k D hk => ?_⟩
      obtain ⟨v, h8, A', L', C', h9, h10, h11, h12⟩ := hc' k D hk
      exact ⟨v, h8, A', L', C', h9, h10, h11, h12, by have := hz.2 D (List.mem_of_getElem? hk); have := h10.1; omega⟩
set_option maxHeartbeats 1000000 in
theorem count_of (a : Option Addr) (n c : Nat) (zs : List Zn) (w : World) (h : ZsRaw w a n zs) :
    Calls Try.prog 46 #[.slice a n c, .int .i64 200] w fun e w' => ∃ k : Int, e = .returned (.int .i64 k) ∧ w' = w ∧ (k ≤ 200 → n ≤ 200 ∧ ∀ z ∈ zs, z.1.length ≤ 200) := by
  have hn : n ≤ 9223372036854775807 := by have := h.2.1; unfold maxLen at this; omega
  have H : Hid (ZsRaw w a n zs) := h
  clear h
  go_enter Try.func46, Try.ntmps46
  go_wp2
  go_loopw [5, 6] (fun s i wr => ∃ (j : Nat) (k : Int), j ≤ n ∧ s = .int .i64 k ∧ i = .int .i64 j ∧ wr = w ∧ (j : Int) ≤ k ∧ k ≤ 401 ∧ (k ≤ 200 → ∀ z ∈ zs.take j, z.1.length ≤ 200)) (fun _ i _ => n - (intOf i).toNat)
  case atStart => exact ⟨0, 0, Nat.zero_le _, rfl, rfl, rfl, by omega, by omega, by simp⟩
  case round =>
    obtain ⟨j, k, hj, rfl, rfl, rfl, hjk, hk, hall⟩ := hrel
    rcases Nat.lt_or_ge j n with hlt | hge
    · have hj' : (j : Int) < n := by omega
      by_cases hk1 : k ≤ 200
      · obtain ⟨b, off, ha, hc⟩ := H.out.2.2.resolve_left (by omega)
        have hkl : j < zs.length := by rw [H.out.1]; exact hlt
        obtain ⟨z, hz⟩ : ∃ z, zs[j]? = some z := ⟨zs[j], by simp [hkl]⟩
        obtain ⟨A, L, C, e1, e2, e3⟩ := hc j z hz
        subst ha
        have HX : Hid (zs[j]? = some z ∧ z.1.length = L ∧ (k ≤ 200 → ∀ z ∈ zs.take j, z.1.length ≤ 200) ∧ (j : Int) ≤ k) := ⟨hz, e3.1, hall, hjk⟩
        have hLm : L ≤ 9223372036854775807 := by have := e3.2.1; unfold maxLen at this; omega
        have hwj : IntKind.i64.wrap ((j : Int) + 1) = (j : Int) + 1 := by rw [IntKind.wrap_i64]; omega
        clear hc hz e2 e3 hall hkl
        by_cases hL : (L : Int) ≤ 200
        · have hw1 : IntKind.i64.wrap (1 + (L : Int)) = 1 + L := by rw [IntKind.wrap_i64]; omega
          have hw2 : IntKind.i64.wrap (k + (1 + (L : Int))) = k + (1 + L) := by rw [IntKind.wrap_i64]; omega
          go_wp2
          go_roundw
          case rel =>
            refine ⟨j + 1, k + (1 + L), by omega, by go_num, by go_num, by first | rfl | trivial, by omega, by omega, fun hk2 y hy => ?_⟩
            rw [List.take_add_one, HX.out.1] at hy
            rcases List.mem_append.1 hy with h | h
            · exact HX.out.2.2.1 (by omega) y h
            · simp at h; rw [h, HX.out.2.1]; omega
          case measure => simp [intOf]; omega
        · have hL' : (200 : Int) < L := by omega
          have hw2 : IntKind.i64.wrap (k + 201) = k + 201 := by rw [IntKind.wrap_i64]; omega
          go_wp2
          go_roundw
          case rel => exact ⟨j + 1, k + 201, by omega, by go_num, by go_num, by first | rfl | trivial, by omega, by omega, fun hk2 => by omega⟩
          case measure => simp [intOf]; omega
      · have hk2 : (200 : Int) < k := by omega
        go_wp2
        go_ret
        exact ⟨k, rfl, rfl, fun h => by omega⟩
    · obtain rfl : j = n := by omega
      have HX : Hid (k ≤ 200 → j ≤ 200 ∧ ∀ z ∈ zs, z.1.length ≤ 200) := fun h => ⟨by omega, by
        have := hall h
        rwa [List.take_of_length_le (by rw [H.out.1]; omega)] at this⟩
      clear hall
      go_wp2
      go_ret
      exact ⟨k, rfl, rfl, HX.out⟩
theorem ZsRaw.below {w w' : World} {a : Option Addr} {n : Nat} {zs : List Zn} (h : ZsRaw w a n zs) (hb : Below w.heap.size w w') : ZsRaw w' a n zs := by
  obtain ⟨h1, h2, h3⟩ := h
  refine ⟨h1, h2, ?_⟩
  rcases h3 with h3 | ⟨b, off, ha, hc⟩
  · exact .inl h3
  · refine .inr ⟨b, off, ha, fun i z hi => ?_⟩
    obtain ⟨A, L, C, h4, h5, h6, h7, h8⟩ := hc i z hi
    refine ⟨A, L, C, by rw [hb.cell (old_block h4)]; exact h4, by rw [hb.cell (old_block h5)]; exact h5, h6, h7, ?_⟩
    rcases h8 with h8 | ⟨b', off', hA, hc'⟩
    · exact .inl h8
    · refine .inr ⟨b', off', hA, fun k D hk => ?_⟩
      obtain ⟨v, h9, A', L', C', h10, h11, h12⟩ := hc' k D hk
      exact ⟨v, by rw [hb.cell (old_block h9)]; exact h9, A', L', C', h10, h11.below hb, h12⟩
set_option maxHeartbeats 1000000 in
theorem tooHeavy_of (a : Option Addr) (n c : Nat) (zs : List Zn) (w : World) (h : ZsRaw w a n zs) :
    Calls Try.prog 20 #[.slice a n c, .int .i64 200] w fun e w' => ∃ y : Bool, e = .returned (.bool y) ∧ w' = w ∧ (y = false → LightZ zs) := by
  have H : Hid (ZsRaw w a n zs) := h
  clear h
  go_enter Try.func20, Try.ntmps20
  go_wp2_with fail
  refine (count_of a n c zs w H.out).mono ?_
  rintro e w1 ⟨k, rfl, hw1, hk⟩
  replace hw1 := hw1.symm
  subst hw1
  by_cases hk1 : k ≤ 200
  · obtain ⟨hn, hL⟩ := hk hk1
    have HL : Hid (∀ z ∈ zs, z.1.length ≤ 200) := hL
    clear hk hL
    go_wp2
    go_loopw [5] (fun i wr => ∃ j : Nat, j ≤ n ∧ i = .int .i64 j ∧ wr = w ∧ ∀ z ∈ zs.take j, ∀ D ∈ z.1, D.length ≤ 200) (fun i _ => n - (intOf i).toNat)
    case atStart => exact ⟨0, Nat.zero_le _, rfl, rfl, by simp⟩
    case round =>
      obtain ⟨j, hj, rfl, rfl, hall⟩ := hrel
      rcases Nat.lt_or_ge j n with hlt | hge
      · have hj' : (j : Int) < n := by omega
        have hwj : IntKind.i64.wrap ((j : Int) + 1) = (j : Int) + 1 := by rw [IntKind.wrap_i64]; omega
        obtain ⟨b, off, ha, hc⟩ := H.out.2.2.resolve_left (by omega)
        have hkl : j < zs.length := by rw [H.out.1]; exact hlt
        obtain ⟨z, hz⟩ : ∃ z, zs[j]? = some z := ⟨zs[j], by simp [hkl]⟩
        obtain ⟨A, L, C, e1, e2, e3⟩ := hc j z hz
        subst ha
        have hLb : L ≤ 200 := by have := HL.out z (List.mem_of_getElem? hz); have := e3.1; omega
        have HX : Hid (zs[j]? = some z ∧ BsRaw wr A L z.1 ∧ (∀ z ∈ zs.take j, ∀ D ∈ z.1, D.length ≤ 200)) := ⟨hz, e3, hall⟩
        clear hc hz e2 e3 hall hkl
        obtain ⟨wk, rfl⟩ : ∃ wk, wk = wr := ⟨_, rfl⟩
        go_wp2
        go_loopw [6] (fun i wr => ∃ t : Nat, t ≤ L ∧ i = .int .i64 t ∧ wr = wk ∧ ∀ D ∈ z.1.take t, D.length ≤ 200) (fun i _ => L - (intOf i).toNat)
        case atStart => exact ⟨0, Nat.zero_le _, rfl, rfl, by simp⟩
        case round =>
          obtain ⟨t, ht, rfl, rfl, hall⟩ := hrel
          rcases Nat.lt_or_ge t L with hlt2 | hge2
          · have ht' : (t : Int) < L := by omega
            have hwt : IntKind.i64.wrap ((t : Int) + 1) = (t : Int) + 1 := by rw [IntKind.wrap_i64]; omega
            obtain ⟨b2, off2, hA, hc2⟩ := HX.out.2.1.2.2.resolve_left (by omega)
            have hkl : t < z.1.length := by rw [HX.out.2.1.1]; exact hlt2
            obtain ⟨D, hD⟩ : ∃ D, z.1[t]? = some D := ⟨z.1[t], by simp [hkl]⟩
            obtain ⟨v, d1, A2, L2, C2, rfl, d2, d3, d4⟩ := hc2 t D hD
            subst hA
            have HD : Hid (z.1[t]? = some D ∧ D.length = L2 ∧ (∀ D ∈ z.1.take t, D.length ≤ 200)) := ⟨hD, d2.1, hall⟩
            clear hc2 hD d2 d3 d4 hall hkl
            by_cases h2 : (200 : Int) < L2
            · go_wp2
              go_ret
              exact ⟨true, rfl, rfl, fun h => by cases h⟩
            · have h2' : (L2 : Int) ≤ 200 := by omega
              go_wp2
              go_roundw
              case rel =>
                refine ⟨t + 1, by omega, by go_num, by first | rfl | trivial, fun y hy => ?_⟩
                rw [List.take_add_one, HD.out.1] at hy
                rcases List.mem_append.1 hy with h | h
                · exact HD.out.2.2 y h
                · simp at h; rw [h, HD.out.2.1]; omega
              case measure => simp [intOf]; omega
          · obtain rfl : t = L := by omega
            have HY : Hid (∀ D ∈ z.1, D.length ≤ 200) := by
              rw [List.take_of_length_le (by rw [HX.out.2.1.1]; omega)] at hall
              exact hall
            clear hall
            go_wp2
            go_roundw
            case rel =>
              refine ⟨j + 1, by omega, by go_num, by first | rfl | trivial, fun y hy => ?_⟩
              rw [List.take_add_one, HX.out.1] at hy
              rcases List.mem_append.1 hy with h | h
              · exact HX.out.2.2 y h
              · simp at h; rw [h]; exact HY.out
            case measure => simp [intOf]; omega
      · obtain rfl : j = n := by omega
        have HY : Hid (LightZ zs) := by
          rw [List.take_of_length_le (by rw [H.out.1]; omega)] at hall
          exact ⟨by rw [H.out.1]; exact hn, fun z hz => ⟨HL.out z hz, hall z hz⟩⟩
        clear hall
        go_wp2
        go_ret
        exact ⟨false, rfl, rfl, fun _ => HY.out⟩
  · have hk2 : (200 : Int) < k := by omega
    clear hk
    go_wp2
    go_ret
    exact ⟨true, rfl, rfl, fun h => by cases h⟩
end Go.Proofs.Yteokhkoaieibmaa

/- What one call of Open does. -/
namespace Go.Proofs.Yteokhkoaieibmaa
open Go.RowKit Go.Shelf
set_option linter.unusedVariables false

theorem cutW_front (S : Nat) : ∀ bs : List (List Int), (cutW S bs).length = bs.length → cutW S bs = bs ∧ ∀ D ∈ bs, D.length = S
  | [], _ => ⟨rfl, by simp⟩
  | D :: bs, h => by
    unfold cutW at h ⊢
    rw [List.takeWhile_cons] at h ⊢
    by_cases e : (D.length == S) = true
    · rw [if_pos e] at h ⊢
      obtain ⟨h1, h2⟩ := cutW_front S bs (by unfold cutW; simpa using h)
      unfold cutW at h1
      refine ⟨by rw [h1], fun E hE => ?_⟩
      rcases List.mem_cons.1 hE with rfl | hE
      · simpa using e
      · exact h2 E hE
    · rw [if_neg e] at h
      simp at h
theorem op_mem {T : TypeId} {O : Nat → Prop} {V w' : World} {p : Nat} {s : Sh} {zs : List Zn} {g cz : Nat} {vs : List Value} {i : Nat} {z : Zn} {u u' : Value} {B : List (List Int)} (hO : ∀ x, V.heap.size ≤ x → O x) (hv : DvV T O V p s zs g cz vs) (hz : zs[i]? = some z) (hu : vs[i]? = some u)
    (hr : RowAt (fun x => V.heap.size ≤ x) w' u' B) (hb : Below V.heap.size V w') (d : Int) :
    w'.cell? ⟨g, i * 2, none⟩ = some u ∧ w'.cell? ⟨g, i * 2 + 1, none⟩ = some (.int .i64 z.2) ∧ (∀ j, w'.frozen? ⟨g, j, none⟩ = false) ∧ ∃ vs', DvV T O ((w'.setCell ⟨g, i * 2, none⟩ u').setCell ⟨g, i * 2 + 1, none⟩ (.int .i64 d)) p s (zs.set i (B, d)) g cz vs' ∧ vs'[i]? = some u' := by
  have hi := (List.getElem?_eq_some_iff.1 hz).1
  have hvl := hv.vl
  have hown : ∀ r, u'.ownBlock = some r → V.heap.size ≤ r := by obtain ⟨uv, u1, u2, _⟩ := hr; exact u2
  obtain ⟨k1, k2, k3, hd⟩ := hv.upd (O1 := O) hz hu (below_out _ hb) (fun _ h => h) (hr.mono (fun x hx _ => hO x hx)) (.inr hown)
  have hd2 := hd.setD (i := i) (z := (B, z.2)) (by simp [hi]) d
  rw [List.set_set] at hd2
  exact ⟨k1, k2, k3, _, hd2, by rw [List.getElem?_set_self (by omega)]⟩
/-- A zone that Open takes. -/
def GoodZ (s : Sh) (z : Zn) : Prop := (z.1.length : Int) ≤ s.zb ∧ 0 ≤ z.2 ∧ z.2 ≤ z.1.length ∧ ∀ D ∈ z.1, (D.length : Int) = s.b
theorem wf_bad {s : Sh} {zs : List Zn} {i : Nat} {z : Zn} (hz : zs[i]? = some z) (h : ¬ GoodZ s z) : ¬ Wf s zs := fun hw => h (hw.zone z (List.mem_of_getElem? hz))
def Opened (T : TypeId) (W : World) (s : Sh) (zs : List Zn) (e : Ending) (w' : World) : Prop :=
  Below W.heap.size W w' ∧ ((¬ Wf s zs ∧ e = .returned (.pointer none)) ∨ (Wf s zs ∧ ∃ p, e = .returned (.pointer (some ⟨p, 0, none⟩)) ∧ Dv T (fun x => W.heap.size ≤ x) w' p s zs))
set_option maxHeartbeats 8000000 in
set_option maxRecDepth 20000 in
theorem open_of (s : Sh) (a : Option Addr) (n c : Nat) (zs : List Zn) (W : World) (hz : -9223372036854775808 ≤ s.z) (hl : ZsIn W a n zs) : Calls Try.prog 33 #[.agg (shL s).toArray, .slice a n c] W (Opened 104 W s zs) := by
  obtain ⟨q, hq⟩ : ∃ q, q = W.heap.size := ⟨_, rfl⟩
  have hb : Blk (W.alloc (.cells #[.int .i64 s.z, .int .i64 s.zb, .int .i64 s.b, .int .i64 s.r] 23)) q (shL s) 23 := Blk.new' hq.symm rfl
  have hbel : Below W.heap.size W (W.alloc (.cells #[.int .i64 s.z, .int .i64 s.zb, .int .i64 s.b, .int .i64 s.r] 23)) := (Below.refl _ _).alloc (Nat.le_refl _) _
  simp only [shL]
  go_enter Try.func33, Try.ntmps33
  go_upto_region 1 with fail
  rw [← hq]
  generalize hW1 : World.alloc _ _ = W1 at *
  have cells : ∀ {V : World}, Below W1.heap.size W1 V → V.cell? ⟨q, 0, none⟩ = some (.int .i64 s.z) ∧ V.cell? ⟨q, 1, none⟩ = some (.int .i64 s.zb) ∧ V.cell? ⟨q, 2, none⟩ = some (.int .i64 s.b) ∧ V.cell? ⟨q, 3, none⟩ = some (.int .i64 s.r) := by
    intro V hV
    have h := (below_out Non hV).blk hb id
    exact ⟨h.cell 0, h.cell 1, h.cell 2, h.cell 3⟩
  obtain ⟨e0, e1, e2, e3⟩ := cells (Below.refl _ _)
  have HC : Hid (∀ {V : World}, Below W1.heap.size W1 V → V.cell? ⟨q, 0, none⟩ = some (.int .i64 s.z) ∧ V.cell? ⟨q, 1, none⟩ = some (.int .i64 s.zb) ∧ V.cell? ⟨q, 2, none⟩ = some (.int .i64 s.b) ∧ V.cell? ⟨q, 3, none⟩ = some (.int .i64 s.r)) := cells
  have HB : Hid (Below W.heap.size W W1 ∧ -9223372036854775808 ≤ s.z ∧ ZsIn W a n zs) := ⟨hbel, hz, hl⟩
  clear cells hb hbel hz hl hW1 hq
  by_cases hr : RightS s
  · have HR : Hid (RightS s) := hr
    clear hr
    go_upto_region 2 with (go_at_call 29; refine (new_of s _ HB.out.2.1).mono ?_; rintro e W5 ⟨b5, (⟨hno, _⟩ | ⟨_, p, rfl, dv5⟩)⟩; (exact (hno HR.out).elim))
    obtain ⟨g0, g1, g2, g3⟩ := HC.out b5
    have hnn := HB.out.2.2.1
    have hn1000 := HB.out.2.2.2.1
    by_cases hlen : (n : Int) = s.z
    · obtain ⟨g, cz, vs0, hv5⟩ := dv5
      have hemp : (emptyZ s.z.toNat).length = n := by simp [emptyZ]; omega
      have hsb := power_bounds HR.out.2.2.2.2.1
      obtain ⟨S, hS⟩ : ∃ S : Nat, s.b = S := ⟨s.b.toNat, by omega⟩
      obtain ⟨E, hE⟩ : ∃ E, E = emptyZ s.z.toNat := ⟨_, rfl⟩
      rw [← hE] at hv5 hemp
      have H5 : Hid (DvV 104 (fun x => W1.heap.size ≤ x) W5 p s E g cz vs0 ∧ Below W1.heap.size W1 W5 ∧ E.length = n ∧ zs.length = n ∧ s.b = S ∧ 0 < S ∧ S ≤ 100000) := ⟨hv5, b5, hemp, hnn, hS, by omega, by omega⟩
      rw [← hlen] at g0
      have Hlen : Hid ((n : Int) = s.z) := hlen
      clear hv5 b5 hE hemp e0 e1 e2 e3 hS hsb hlen
      go_wp2
      go_loopw [21] (fun x wr => ∃ i : Nat, x = .int .i64 i ∧ i ≤ n ∧ (∃ vs', DvV 104 (fun x => W1.heap.size ≤ x) wr p s (upTo (fun j _ => zs.getD j ([], 0)) E i) g cz vs') ∧ Below W1.heap.size W1 wr ∧ ∀ z ∈ zs.take i, GoodZ s z) (fun x wr => n - (intOf x).toNat)
      case atStart => exact ⟨0, rfl, Nat.zero_le _, ⟨vs0, by rw [upTo_zero]; exact H5.out.1⟩, H5.out.2.1, by simp⟩
      case round =>
        obtain ⟨i, rfl, hi, ⟨vs', hv⟩, hb, hgood⟩ := hrel
        rcases Nat.lt_or_ge i n with hlt | hge
        · obtain ⟨z, hz⟩ : ∃ z, zs[i]? = some z := ⟨zs[i]'(by omega), by simp⟩
          obtain ⟨y, hy⟩ : ∃ y, E[i]? = some y := ⟨E[i]'(by have := H5.out.2.2.1; omega), by simp⟩
          have hy' := (upTo_get (fun j _ => zs.getD j ([], 0)) E i).trans hy
          obtain ⟨ua, uc, hu, hr, z0, z1⟩ := hv.at hy'
          have hbw := HB.out.1.trans (hb.mono HB.out.1.size)
          obtain ⟨b, off, rfl, hc⟩ := (HB.out.2.2.below hbw).2.2.resolve_left (by omega)
          obtain ⟨A, L, C, d0, d1, hbs⟩ := hc i z hz
          have hL := hbs.1
          obtain ⟨q2, hq2⟩ : ∃ q2, q2 = wr.heap.size := ⟨_, rfl⟩
          obtain ⟨dd, hdd⟩ : ∃ dd, dd = z.2 := ⟨_, rfl⟩
          rw [← hdd] at d1
          have hi' : (i : Int) < (n : Int) := by omega
          have hw1 : IntKind.i64.wrap ((i : Int) + 1) = (i : Int) + 1 := by rw [IntKind.wrap_i64]; omega
          have HX : Hid (Blk (wr.alloc (.cells #[.slice A L C, .int .i64 dd] 76)) q2 [.slice A L C, .int .i64 dd] 76 ∧ Below wr.heap.size wr (wr.alloc (.cells #[.slice A L C, .int .i64 dd] 76))) := ⟨Blk.new' hq2.symm rfl, (Below.refl _ _).alloc (Nat.le_refl _) _⟩
          have HI : Hid (zs[i]? = some z ∧ E[i]? = some y ∧ DvV 104 (fun x => W1.heap.size ≤ x) wr p s (upTo (fun j _ => zs.getD j ([], 0)) E i) g cz vs' ∧ Below W1.heap.size W1 wr ∧ (∀ z ∈ zs.take i, GoodZ s z) ∧ vs'[i]? = some (.slice ua y.1.length uc) ∧ BsIn wr A L z.1 ∧ z.1.length = L ∧ dd = z.2 ∧ q2 = wr.heap.size) := ⟨hz, hy, hv, hb, hgood, hu, hbs, hL, hdd, hq2⟩
          clear hz hy hy' hv hb hgood hu hbs hr z0 z1 hc hbw hL hdd g0 g1 g2 g3
          go_upto_region 7 with fail
          rw [← hq2]
          generalize hVV : World.alloc _ _ = V at HX ⊢
          clear hVV hq2 d0 d1
          have hbV := HI.out.2.2.2.1.trans (HX.out.2.mono HI.out.2.2.2.1.size)
          obtain ⟨g0, g1, g2, g3⟩ := HC.out hbV
          rw [H5.out.2.2.2.2.1] at g2
          have x0 : V.cell? ⟨q2, 0, none⟩ = some (.slice A L C) := HX.out.1.cell 0
          have x1 : V.cell? ⟨q2, 1, none⟩ = some (.int .i64 dd) := HX.out.1.cell 1
          have HBV : Hid (Below W1.heap.size W1 V) := hbV
          have bad : ∀ {X : World}, ¬ GoodZ s z → Below W1.heap.size W1 X → Opened 104 W s zs (.returned (.pointer none)) X := fun h hX => ⟨HB.out.1.trans (hX.mono HB.out.1.size), .inl ⟨wf_bad HI.out.1 h, rfl⟩⟩
          have HBad : Hid (∀ {X : World}, ¬ GoodZ s z → Below W1.heap.size W1 X → Opened 104 W s zs (.returned (.pointer none)) X) := bad
          clear hbV bad
          by_cases h1 : s.zb < (L : Int)
          · have hN : Hid (¬ GoodZ s z) := fun h => by have := h.1; have := HI.out.2.2.2.2.2.2.2.1; omega
            have h1d : decide (s.zb < (L : Int)) = true := by simp; omega
            go_wp2
            go_ret
            exact HBad.out hN.out HBV.out
          · have h1' : (L : Int) ≤ s.zb := by omega
            have h1d : decide (s.zb < (L : Int)) = false := by simp; omega
            by_cases h2 : 0 ≤ dd ∧ dd ≤ (L : Int)
            · skip
              have hvV := HI.out.2.2.1.under HX.out.2
              have c4V := hvV.pcell.2.2.2.2
              rw [upTo_length, H5.out.2.2.1] at c4V
              obtain ⟨Lg, hLg⟩ := own_blk HI.out.2.2.1.hg
              have hgl := hLg.lt
              have hgo : W1.heap.size ≤ g := hvV.og
              have hqlt : q < W1.heap.size := old_block (HC.out (Below.refl _ _)).1
              obtain ⟨Lg2, hLg2⟩ := own_blk hvV.hg
              have hpg : p ≠ g := blk_ne hvV.hp hLg2 (by decide)
              have hqg2 : q2 ≠ g := by have := HI.out.2.2.2.2.2.2.2.2.2; omega
              have hqg : q ≠ g := by omega
              have HC9 : Hid (∀ X, Below V.heap.size V X → Calls Try.prog 57 #[.agg #[.slice A L C, .int .i64 dd], .int .i64 S] X (Copied X z.1 S dd)) := fun X hX => copied_of A L C S dd z.1 X (HI.out.2.2.2.2.2.2.1.below (HX.out.2.trans (hX.mono HX.out.2.size))) H5.out.2.2.2.2.2.1 H5.out.2.2.2.2.2.2
              have HM9 : Hid (∀ w3 u', RowAt (fun x => V.heap.size ≤ x) w3 u' (cutW S z.1) → Below V.heap.size V w3 →
                  w3.cell? ⟨g, i * 2, none⟩ = some (.slice ua y.1.length uc) ∧ w3.cell? ⟨g, i * 2 + 1, none⟩ = some (.int .i64 y.2) ∧ (∀ j, w3.frozen? ⟨g, j, none⟩ = false) ∧ ∃ vs', DvV 104 (fun x => W1.heap.size ≤ x) ((w3.setCell ⟨g, i * 2, none⟩ u').setCell ⟨g, i * 2 + 1, none⟩ (.int .i64 dd)) p s ((upTo (fun j _ => zs.getD j ([], 0)) E i).set i (cutW S z.1, dd)) g cz vs' ∧ vs'[i]? = some u') :=
                fun w3 u' h1 h2 => op_mem (fun x hx => Nat.le_trans HBV.out.size hx) hvV ((upTo_get (fun j _ => zs.getD j ([], 0)) E i).trans HI.out.2.1) HI.out.2.2.2.2.2.1 h1 h2 dd
              have HG : Hid (W1.heap.size ≤ g ∧ q2 ≠ g ∧ Blk V p [.int .i64 s.z, .int .i64 s.zb, .int .i64 s.b, .int .i64 s.r, .slice (some ⟨g, 0, none⟩) n cz] 104) := by
                have := hvV.hp
                rw [upTo_length, H5.out.2.2.1] at this
                exact ⟨hgo, hqg2, this⟩
              have HH : Hid (0 ≤ dd ∧ dd ≤ (L : Int)) := h2
              clear hvV hLg hLg2 hgl hgo hqlt h2
              obtain ⟨_, _, _, _, z0V, z1V⟩ := (HI.out.2.2.1.under HX.out.2).at ((upTo_get (fun j _ => zs.getD j ([], 0)) E i).trans HI.out.2.1)
              go_upto_region 9 with (go_at_call 62; refine (within_of _ _ _ _).mono ?_; rintro e w' ⟨rfl, hw'⟩; replace hw' := hw'.symm; subst hw'; rw [show (decide ((0 : Int) ≤ dd) && decide (dd ≤ (L : Int))) = true by simp; exact HH.out])
              refine wp_region_noPanic ?_
              go_region_law (go_simp; go_at_call 57; refine (HC9.out _ (by exact (Below.refl _ _).drew)).mono ?_; rintro e w3 ⟨v3, rfl, r3, b3⟩; obtain ⟨va, vc, hv3⟩ := r3.slice; subst hv3; obtain ⟨m5, m6, m7, vs9, hd9, hu9⟩ := HM9.out w3 _ r3 ⟨b3.os, b3.tape, b3.output, b3.size, b3.block⟩; have b3' : Below V.heap.size V w3 := ⟨b3.os, b3.tape, b3.output, b3.size, b3.block⟩; have bq3 := (below_out Non b3').blk HX.out.1 id; have m4 : w3.cell? ⟨p, 4, none⟩ = some (.slice (some ⟨g, 0, none⟩) n cz) := ((below_out Non b3').blk HG.out.2.2 id).cell 4; have m0 : w3.cell? ⟨q2, 0, none⟩ = some (.slice A L C) := bq3.cell 0; have m1 : w3.cell? ⟨q2, 1, none⟩ = some (.int .i64 dd) := bq3.cell 1; have m8 := m7 (i * 2); have m9 := m7 (i * 2 + 1))
              all_goals
                refine NoPanic.normal ?_
                have HF : Hid ((∃ vs', DvV 104 (fun x => W1.heap.size ≤ x) ((w3.setCell ⟨g, i * 2, none⟩ (.slice va (cutW S z.1).length vc)).setCell ⟨g, i * 2 + 1, none⟩ (.int .i64 dd)) p s ((upTo (fun j _ => zs.getD j ([], 0)) E i).set i (cutW S z.1, dd)) g cz vs' ∧ vs'[i]? = some (.slice va (cutW S z.1).length vc)) ∧ Below W1.heap.size W1 ((w3.setCell ⟨g, i * 2, none⟩ (.slice va (cutW S z.1).length vc)).setCell ⟨g, i * 2 + 1, none⟩ (.int .i64 dd)) ∧ Blk ((w3.setCell ⟨g, i * 2, none⟩ (.slice va (cutW S z.1).length vc)).setCell ⟨g, i * 2 + 1, none⟩ (.int .i64 dd)) q2 [.slice A L C, .int .i64 dd] 76) := by
                  refine ⟨⟨vs9, hd9, hu9⟩, ?_, ?_⟩
                  · exact ((HBV.out.trans (b3'.mono HBV.out.size)).setCell (p := ⟨g, i * 2, none⟩) HG.out.1 _).setCell (p := ⟨g, i * 2 + 1, none⟩) HG.out.1 _
                  · exact (bq3.set_other (a := ⟨g, i * 2, none⟩) HG.out.2.1 _).set_other (a := ⟨g, i * 2 + 1, none⟩) HG.out.2.1 _
                clear hd9 hu9 b3 b3' bq3 m0 m1 m4 m5 m6 m7 m8 m9 r3 z0V z1V c4V x0 x1 g0 g1 g2 g3
                generalize World.setCell _ _ _ = V9 at HF ⊢
                obtain ⟨vs8, hd8, hu8⟩ := HF.out.1
                have n4 := hd8.pcell.2.2.2.2
                rw [List.length_set, upTo_length, H5.out.2.2.1] at n4
                obtain ⟨ua8, uc8, hu8', _, n0, _⟩ := hd8.at (i := i) (z := (cutW S z.1, dd)) (by rw [List.getElem?_set_self (by rw [upTo_length, H5.out.2.2.1]; exact hlt)])
                have hue : ua8 = va ∧ uc8 = vc := by rw [hu8] at hu8'; cases hu8'; exact ⟨rfl, rfl⟩
                obtain ⟨rfl, rfl⟩ := hue
                have n0' : V9.cell? ⟨g, i * 2, none⟩ = some (.slice ua8 (cutW S z.1).length uc8) := n0
                have n2 : V9.cell? ⟨q2, 0, none⟩ = some (.slice A L C) := HF.out.2.2.cell 0
                obtain ⟨M, hM⟩ : ∃ M, M = (cutW S z.1).length := ⟨_, rfl⟩
                rw [← hM] at n0' ⊢
                have HMM : Hid (M = (cutW S z.1).length) := hM
                clear hd8 hu8 hu8' n0 hM
                by_cases hML : M = L
                · have HN : Hid ((∃ vs', DvV 104 (fun x => W1.heap.size ≤ x) V9 p s (upTo (fun j _ => zs.getD j ([], 0)) E (i + 1)) g cz vs') ∧ Below W1.heap.size W1 V9 ∧ ∀ z ∈ zs.take (i + 1), GoodZ s z) := by
                    have hcf := cutW_front S z.1 (by rw [← HMM.out, hML]; exact HI.out.2.2.2.2.2.2.2.1.symm)
                    have hdz := HI.out.2.2.2.2.2.2.2.2.1
                    refine ⟨?_, HF.out.2.1, ?_⟩
                    · obtain ⟨vs8, hd8, _⟩ := HF.out.1
                      refine ⟨vs8, ?_⟩
                      rw [← upTo_next _ _ HI.out.2.1]
                      have e : zs.getD i ([], 0) = (cutW S z.1, dd) := by rw [hcf.1, hdz]; simp [List.getD, HI.out.1]
                      rw [e]
                      exact hd8
                    · rw [take_snoc HI.out.1]
                      intro z9 hz9
                      rcases List.mem_append.1 hz9 with h | h
                      · exact HI.out.2.2.2.2.1 z9 h
                      · rw [List.mem_singleton.1 h]
                        have hzl := HI.out.2.2.2.2.2.2.2.1
                        have hh := HH.out
                        have hS := H5.out.2.2.2.2.1
                        exact ⟨by omega, by omega, by omega, fun D hD => by rw [hcf.2 D hD, hS]⟩
                  subst hML
                  go_wp2
                  go_region_held3 (fun X => X.cell? ⟨p, 4, none⟩ = some (.slice (some ⟨g, 0, none⟩) n cz) ∧ X.cell? ⟨g, i * 2, none⟩ = some (.slice ua8 M uc8) ∧ X.cell? ⟨q2, 0, none⟩ = some (.slice A M C)) (exact ⟨n4, n0', n2⟩) (fail)
                  go_wp2
                  go_roundw
                  case rel => exact ⟨i + 1, by simp, by omega, by obtain ⟨v8, h8⟩ := HN.out.1; exact ⟨v8, h8.under (Below.refl _ _).drew⟩, HN.out.2.1.drew, HN.out.2.2⟩
                  case measure => simp [intOf]; omega
                · have hN : Hid (¬ GoodZ s z) := fun h => hML (by
                    rw [HMM.out, cutW_all (fun D hD => by have := h.2.2.2 D hD; have := H5.out.2.2.2.2.1; omega)]
                    exact HI.out.2.2.2.2.2.2.2.1)
                  have hML' : ((M : Int) == (L : Int)) = false := by simp; omega
                  have hML2 : (M == L) = false := by simp [hML]
                  go_wp2
                  go_region_held3 (fun X => X.cell? ⟨p, 4, none⟩ = some (.slice (some ⟨g, 0, none⟩) n cz) ∧ X.cell? ⟨g, i * 2, none⟩ = some (.slice ua8 M uc8) ∧ X.cell? ⟨q2, 0, none⟩ = some (.slice A L C)) (exact ⟨n4, n0', n2⟩) (fail)
                  go_wp2
                  go_ret
                  exact HBad.out hN.out HF.out.2.1.drew
            · have hN : Hid (¬ GoodZ s z) := fun h => h2 (by have := h.2.1; have := h.2.2.1; have := HI.out.2.2.2.2.2.2.2; omega)
              have h2d : (decide ((0 : Int) ≤ dd) && decide (dd ≤ (L : Int))) = false := by simp; omega
              clear h2
              go_wp2_with (go_at_call 62; refine (within_of _ _ _ _).mono ?_; rintro e w' ⟨rfl, hw'⟩; replace hw' := hw'.symm; subst hw'; rw [h2d])
              go_ret
              exact HBad.out hN.out HBV.out
        · obtain rfl : i = n := by omega
          have HF : Hid (Opened 104 W s zs (.returned (.pointer (some ⟨p, 0, none⟩))) wr) := by
            refine ⟨HB.out.1.trans (hb.mono HB.out.1.size), .inr ⟨⟨HR.out, by have := Hlen.out; omega, fun z hz => ?_⟩, p, rfl, ?_⟩⟩
            · rw [List.take_of_length_le (by omega)] at hgood
              exact hgood z hz
            · have e : upTo (fun j _ => zs.getD j ([], 0)) E i = zs := by
                rw [upTo_all _ _ (by have := H5.out.2.2.1; omega)]
                apply List.ext_getElem?
                intro j
                rw [List.getElem?_mapIdx]
                by_cases hj : j < i
                · have h1 : E[j]? = some (E[j]'(by have := H5.out.2.2.1; omega)) := by simp
                  have h2 : zs[j]? = some (zs[j]'(by omega)) := by simp
                  rw [h1, h2]; simp [List.getD, h2]
                · rw [List.getElem?_eq_none (by have := H5.out.2.2.1; omega), List.getElem?_eq_none (by omega)]; rfl
              rw [e] at hv
              exact ⟨g, cz, vs', hv.mono (fun x hx _ => Nat.le_trans HB.out.1.size hx)⟩
          clear hv hb hgood
          go_wp2
          go_ret
          exact HF.out
    · have hne : ((n : Int) == s.z) = false := by simp [hlen]
      have HN : Hid (Opened 104 W s zs (.returned (.pointer none)) W5) := ⟨HB.out.1.trans (b5.mono HB.out.1.size), .inl ⟨fun h => hlen (by have := h.len; omega), rfl⟩⟩
      clear dv5 b5 hnn hn1000
      go_wp2
      go_ret
      exact HN.out
  · have HR : Hid (¬ RightS s) := hr
    clear hr
    go_wp2_with (go_at_call 29; refine (new_of s _ HB.out.2.1).mono ?_; rintro e W5 ⟨b5, (⟨_, rfl⟩ | ⟨hno, _⟩)⟩; rotate_left; (exact (HR.out hno).elim); obtain ⟨n0, m1, m2, m3⟩ := HC.out b5)
    go_ret
    exact ⟨HB.out.1.trans (b5.mono HB.out.1.size), .inl ⟨fun h => HR.out h.right, rfl⟩⟩
end Go.Proofs.Yteokhkoaieibmaa
