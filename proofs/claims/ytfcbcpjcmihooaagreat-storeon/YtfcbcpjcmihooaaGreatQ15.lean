/- Texts of this seat, one behind the other: StDq. -/
import Derived.Test.YtfcbcpjcmihooaaGreatQ14
import Derived.Test.YtfcbcpjcmihooaaGreatP23
import Derived.Test.YtfcbcpjcmihooaaGreatQ3
/- What one call of Put of the document's store does. -/
namespace Go.Proofs.YtfcbcpjcmihooaaGreat
open Go.RowKit
set_option linter.unusedVariables false
set_option maxRecDepth 4000
def segN (w : World) (p : Nat) : Nat := match w.cell? ⟨p, 4, none⟩ with | some (.slice _ n _) => n | _ => 0
def segR (w : World) (p g : Nat) : List Int := (List.range (segN w p)).map (fun i => intOf ((w.cell? ⟨g, i, none⟩).getD (.bool false)))
theorem segR_of {w : World} {p g c : Nat} {s : Sh} {L : List Int} (h : SegR w p g c s L) : segR w p g = L := by
  have e : segN w p = L.length := by unfold segN; rw [h.c4]
  unfold segR
  rw [e]
  refine List.ext_getElem (by simp) (fun i h1 h2 => ?_)
  simp only [List.getElem_map, List.getElem_range]
  rw [h.at (by simpa using h1)]
  simp [intOf, List.getD, List.getElem?_eq_getElem h2]
theorem mu_le (L : List Int) : muZ L ≤ 2 * L.length := by
  unfold muZ cntZ
  have h1 : (listZ L 1).length ≤ L.length := listTo_length L 1 L.length
  have h2 : (listZ L 2).length ≤ L.length := listTo_length L 2 L.length
  omega
theorem putFstep (f : Nat) (st : St) (p : Pt) (l : List Pt) : putF (f + 1) st (p :: l) = if (openZ st.s st.zs (needP p) st.L).2.1 = true then putF f (writeM { st with L := (openZ st.s st.zs (needP p) st.L).2.2 } (openZ st.s st.zs (needP p) st.L).1 ((p :: l).take (frontN st (openZ st.s st.zs (needP p) st.L).1 (p :: l)))) ((p :: l).drop (frontN st (openZ st.s st.zs (needP p) st.L).1 (p :: l))) else (160, { st with L := (openZ st.s st.zs (needP p) st.L).2.2 }) := rfl
theorem putNo {f : Nat} {st : St} {p : Pt} {l : List Pt} (h : curB st.L = false) : putF (f + 1) st (p :: l) = (160, { st with L := curL st.L }) := by
  rw [putFstep, openZ_done (by rw [h]; simp), h, if_neg (by simp)]
theorem putFi {f : Nat} {st : St} {p : Pt} {l : List Pt} (h : curB st.L = true) (hr : roomZ st.s st.zs (curA st.L) < needP p) : putF (f + 1) { st with L := turnZ (curL st.L) (curA st.L) 2 3 } (p :: l) = putF (f + 1) st (p :: l) := by
  rw [putFstep, putFstep]
  simp only
  rw [openZ_more h hr]
  rfl
theorem putGo {f : Nat} {st : St} {p : Pt} {l : List Pt} (h : curB st.L = true) (hr : needP p ≤ roomZ st.s st.zs (curA st.L)) : putF (f + 1) st (p :: l) = putF f (writeM { st with L := curL st.L } (curA st.L) ((p :: l).take (frontN st (curA st.L) (p :: l)))) ((p :: l).drop (frontN st (curA st.L) (p :: l))) := by
  rw [putFstep, openZ_done (by omega), h, if_pos rfl]
theorem rec_write (st : St) (z : Int) (l : List Pt) : { recM st z l with L := fullL st.s (recM st z l).zs st.L z } = writeM st z l := rfl
section
variable {R : Nat → Prop} {V w : World} {k : Rs} {st : St}
theorem open_sd (h : Sd R V k st w) : Calls Tryz.prog 134 #[.pointer (some ⟨k.ps, 0, none⟩)] w fun e w' => e = .returned (.tuple #[.int .i64 (curA st.L), .bool (curB st.L)]) ∧ Sd R V k { st with L := curL st.L } w' := by
  obtain ⟨D, M, hv, hR, ho⟩ := h
  refine (dsopen_of hv).mono ?_
  rintro e w' ⟨rfl, sv⟩
  exact ⟨rfl, Sd.next hR ho sv⟩
theorem at_sd (z : Int) (h : Sd R V k st w) : Calls Tryz.prog 135 #[.pointer (some ⟨k.pd, 0, none⟩), .int .i64 z] w fun e w' => e = .returned (.tuple #[.int .i64 ((atZ st.zs z).1.length : Nat), .int .i64 (atZ st.zs z).2]) ∧ Sd R V k st w' := by
  obtain ⟨D, M, hv, hR, ho⟩ := h
  refine (rAt_of z hv.dv).mono ?_
  rintro e w' ⟨rfl, hb⟩
  exact ⟨rfl, D, M, hv.under hb, hR, ho.under hb⟩
theorem fill_sd (z : Int) (h : Sd R V k st w) : Calls Tryz.prog 136 #[.pointer (some ⟨k.pg, 0, none⟩), .int .i64 z] w fun e w' => (∃ v, e = .returned v) ∧ Sd R V k { st with L := turnZ st.L z 2 3 } w' := by
  obtain ⟨D, M, hv, hR, ho⟩ := h
  refine (dgFill_of k.pg k.gg k.gc st.s st.L z w hv.sg).mono ?_
  rintro e w' ⟨rfl, h1, h2⟩
  exact ⟨⟨_, rfl⟩, Sd.next hR ho (hv.sgstep h1 h2 (turnZ_length _ _ _ _))⟩
theorem many_sd (h : Sd R V k st w) (a : Option Addr) (n cc : Nat) (l : List Pt) (X : Nat → Prop) (r : Int) (hl : PtsIn X V a n l) (hX : ∀ x, X x → ¬ R x) (hr : 0 ≤ r ∧ r ≤ 10000) : Calls Tryz.prog 137 #[.pointer (some ⟨k.ps, 0, none⟩), .slice a n cc, .int .i64 r] w fun e w' => e = .returned (.int .i64 (frN l (roomI st.s.b).toNat (r - 1) : Nat)) ∧ w' = w := by
  obtain ⟨D, M, hv, hR, ho⟩ := h
  exact dsmany_of hv a n cc l X r (hl.out ho hX) hr
theorem record_sd (z : Nat) (h : Sd R V k st w) (hz : z < st.zs.length) (a : Option Addr) (n cc : Nat) (l : List Pt) (X : Nat → Prop) (hl : PtsIn X V a n l) (hX : ∀ x, X x → ¬ R x ∧ x < V.heap.size) (hS : st.S.length + n ≤ 10000) :
    Calls Tryz.prog 138 #[.pointer (some ⟨k.ps, 0, none⟩), .int .i64 (z : Nat), .slice a n cc] w fun e w' => e = .returned (.tuple #[]) ∧ Sd R V k (recM st z l) w' ∧ (recM st z l).S.length ≤ st.S.length + n := by
  obtain ⟨D, M, hv, hR, ho⟩ := h
  refine (dsrecord_of z hv hz a n cc l X (hl.out ho (fun x hx => (hX x hx).1)) (fun x hx => ⟨fun hs => ?_, ?_⟩) hS).mono ?_
  · rcases hR x hs with h | h
    · exact (hX x hx).1 h
    · have := (hX x hx).2; omega
  · have := (hX x hx).2; have := ho.size; omega
  · rintro e w' ⟨rfl, sv, hlen⟩
    exact ⟨rfl, Sd.next hR ho sv, hlen⟩
theorem Sd.cells (h : Sd R V k st w) : w.cell? ⟨k.ps, 0, none⟩ = some (.pointer (some ⟨k.pd, 0, none⟩)) ∧ w.cell? ⟨k.ps, 1, none⟩ = some (.pointer (some ⟨k.pg, 0, none⟩)) ∧ w.cell? ⟨k.pd, 1, none⟩ = some (.int .i64 st.s.zb) ∧ w.cell? ⟨k.pd, 2, none⟩ = some (.int .i64 st.s.b) := by
  obtain ⟨D, M, hv, hR, ho⟩ := h
  exact ⟨hv.cells.1, hv.cells.2.1, hv.dcells.2.1, hv.dcells.2.2.1⟩
theorem Sd.mu (h : Sd R V k st w) : muZ (segR w k.pg k.gg) = muZ st.L ∧ muZ st.L ≤ 512 := by
  obtain ⟨D, M, hv, hR, ho⟩ := h
  have h1 := mu_le st.L
  have h2 := hv.sg.len.2
  exact ⟨by rw [segR_of hv.sg], by omega⟩
theorem wrm_full {st : St} {z : Nat} {l : List Pt} (h : roomZ st.s (recM st z l).zs z = 0) : { recM st z l with L := turnZ st.L z 2 3 } = writeM st z l := by
  rw [← rec_write]
  unfold fullL
  rw [if_pos h]
theorem wrm_not {st : St} {z : Nat} {l : List Pt} (h : roomZ st.s (recM st z l).zs z ≠ 0) : recM st z l = writeM st z l := by
  rw [← rec_write]
  unfold fullL
  rw [if_neg h]
  rfl
set_option maxHeartbeats 4000000 in
theorem dsput_of {D M : Nat → Prop} {W : World} (h : SdV D M W k st) (a : Option Addr) (n cc : Nat) (l : List Pt) (X : Nat → Prop) (hl : PtsIn X W a n l) (hcc : n ≤ cc) (hX : ∀ x, X x → ¬ SdO D M k x ∧ x < W.heap.size) (hS : st.S.length + n ≤ 10000) :
    Calls Tryz.prog 81 #[.pointer (some ⟨k.ps, 0, none⟩), .slice a n cc] W fun e w' => e = .returned (.int .i64 (putM st l).1) ∧ Sd (SdO D M k) W k (putM st l).2 w' ∧ (putM st l).2.S.length ≤ st.S.length + n := by
  obtain ⟨s0, _⟩ := h.cells
  obtain ⟨_, _, d2, _⟩ := h.dcells
  have H : Hid (SdV D M W k st ∧ PtsIn X W a n l ∧ (∀ x, X x → ¬ SdO D M k x ∧ x < W.heap.size) ∧ st.S.length + n ≤ 10000) := ⟨h, hl, hX, hS⟩
  have hn1 := hl.2.1
  clear h hl hX hS
  go_enter Tryz.func81, Tryz.ntmps81
  go_wp2_with fail
  go_loopw [5] (fun x wr => ∃ j : Nat, x = .int .i64 j ∧ j ≤ n ∧ Below W.heap.size W wr ∧ ∀ i p, i < j → l[i]? = some p → p.x = true ∨ (p.d.length : Int) = st.s.b) (fun x _ => n - (intOf x).toNat)
  case atStart => exact ⟨0, rfl, Nat.zero_le _, Below.refl _ _, fun i p hi => by omega⟩
  case round =>
    obtain ⟨j, rfl, hj, hb, hok⟩ := hrel
    rcases Nat.lt_or_ge j n with hlt | hge
    · have hj' : (j : Int) < n := by omega
      have hwj : IntKind.i64.wrap ((j : Int) + 1) = (j : Int) + 1 := by rw [IntKind.wrap_i64]; omega
      obtain ⟨p, b, off, hp, rfl, hbx, A1, L1, C1, hcl, hbin, _⟩ := (H.out.2.1.below hb).at X hlt
      have x2 : wr.cell? ⟨b, off + j * 4 + 2, none⟩ = some (.bool p.x) := hcl 2 _ rfl
      have x3 : wr.cell? ⟨b, off + j * 4 + 3, none⟩ = some (.slice A1 L1 C1) := hcl 3 _ rfl
      have c0 : wr.cell? ⟨k.ps, 0, none⟩ = some (.pointer (some ⟨k.pd, 0, none⟩)) := (H.out.1.under hb).cells.1
      have c2 : wr.cell? ⟨k.pd, 2, none⟩ = some (.int .i64 st.s.b) := (H.out.1.under hb).dcells.2.2.1
      have hL : p.d.length = L1 := hbin.1
      have HN : Hid (∀ i q, i < j → l[i]? = some q → q.x = true ∨ (q.d.length : Int) = st.s.b) := hok
      have HBV : Hid (∀ m, Below W.heap.size W (wr.drewN m)) := fun m => Go.below_drewN hb m
      have HP : Hid (l[j]? = some p ∧ p.d.length = L1) := ⟨hp, hL⟩
      clear hcl hbin hp hok hb hL s0 d2
      cases hx : p.x with
      | true =>
        rw [hx] at x2
        go_wp2
        go_quiet (fail)
        go_wp2
        go_roundw
        case rel => exact ⟨j + 1, by simp, by omega, HBV.out _, fun i q hi hq => by
          rcases Nat.lt_or_ge i j with h | h
          · exact HN.out i q h hq
          · obtain rfl : i = j := by omega
            rw [HP.out.1] at hq
            cases hq
            exact .inl hx⟩
        case measure => simp [intOf]; omega
      | false =>
        rw [hx] at x2
        by_cases hLb : (L1 : Int) = st.s.b
        · have hLn : ((L1 : Int) != st.s.b) = false := by simp [hLb]
          have HLb : Hid ((L1 : Int) = st.s.b) := hLb
          clear hLb
          go_wp2
          go_quiet (fail)
          go_wp2
          go_roundw
          case rel => exact ⟨j + 1, by simp, by omega, HBV.out _, fun i q hi hq => by
            rcases Nat.lt_or_ge i j with h | h
            · exact HN.out i q h hq
            · obtain rfl : i = j := by omega
              rw [HP.out.1] at hq
              cases hq
              exact .inr (by rw [HP.out.2]; exact HLb.out)⟩
          case measure => simp [intOf]; omega
        · have hLn : ((L1 : Int) != st.s.b) = true := by simp [hLb]
          have HM : Hid (putM st l = (1, st)) := by
            show _ = _
            unfold putM
            rw [if_neg (fun ho => by
              have := ho p (List.mem_of_getElem? HP.out.1)
              rw [hx, HP.out.2] at this
              exact hLb (this.resolve_left (by decide)))]
          clear hLb
          go_wp2
          go_quiet (fail)
          go_wp2
          go_ret
          rw [HM.out]
          exact ⟨rfl, (Sd.start H.out.1).under (HBV.out _), Nat.le_add_right _ _⟩
    · obtain rfl : j = n := by omega
      have HO : Hid (okP st.s l ∧ Below W.heap.size W wr) := ⟨fun p hp => by
        obtain ⟨i, hi⟩ := List.getElem?_of_mem hp
        exact hok i p (by have := (List.getElem?_eq_some_iff.1 hi).1; rw [H.out.2.1.1] at this; exact this) hi, hb⟩
      clear hok hb s0 d2
      go_wp2_with fail
      go_loopw [1] (fun v wr => ∃ (l' : List Pt) (a' : Option Addr) (m cc' f : Nat) (st' : St), v = .slice a' m cc' ∧ m ≤ cc' ∧ PtsIn X W a' m l' ∧ st'.s = st.s ∧ l'.length ≤ f ∧ st'.S.length + m ≤ st.S.length + j ∧ Sd (SdO D M k) W k st' wr ∧ putF f st' l' = putF l.length st l) (fun v wr => lenOf v * 1000 + muZ (segR wr k.pg k.gg))
      case atStart => exact ⟨l, a, j, cc, l.length, st, rfl, hcc, H.out.2.1, rfl, Nat.le_refl _, Nat.le_refl _, (Sd.start H.out.1).under HO.out.2, rfl⟩
      case round =>
        obtain ⟨l', a', m, cc', f, st', rfl, hmc, hpts, hss, hlf, hcm, hsd, hput⟩ := hrel
        have HM : Hid (putM st l = putF f st' l') := by show _ = _; unfold putM; rw [if_pos HO.out.1, hput]
        have HMu : Hid (muZ (segR wr k.pg k.gg) = muZ st'.L) := by obtain ⟨D1, M1, hv1, _⟩ := hsd; show _ = _; rw [segR_of hv1.sg]
        cases l' with
        | nil =>
          have hm0 : m = 0 := hpts.1.symm
          subst hm0
          have HS : Hid (Sd (SdO D M k) W k st' wr) := hsd
          clear hsd hput hpts
          go_wp2
          go_ret
          rw [HM.out, putFnil]
          exact ⟨rfl, HS.out, hcm⟩
        | cons p r =>
          obtain ⟨f, rfl⟩ : ∃ f', f = f' + 1 := ⟨f - 1, by simp only [List.length_cons] at hlf; omega⟩
          have hm1 : m = r.length + 1 := hpts.1.symm
          have hm0 : 0 < m := by omega
          have hm0' : (0 : Int) < m := by omega
          obtain ⟨p', b, off, hp, rfl, hbx, A1, L1, C1, hcl, _⟩ := hpts.at X hm0
          simp only [List.getElem?_cons_zero, Option.some.injEq] at hp
          subst hp
          have HX2 : Hid (∀ w' stx, Sd (SdO D M k) W k stx w' → w'.cell? ⟨b, off + 2, none⟩ = some (.bool p.x)) := fun w' stx hs => by
            obtain ⟨_, _, _, _, ho⟩ := hs
            exact ho.cell (by simpa using hcl 2 _ rfl) (H.out.2.2.1 b hbx).1
          have HS1 : Hid (Sd (SdO D M k) W k st' wr) := hsd
          have HP : Hid (PtsIn X W (some ⟨b, off, none⟩) m (p :: r)) := hpts
          have HW : Hid (Wf st'.s st'.zs ∧ st'.L.length = st'.zs.length ∧ Good st'.S) := by obtain ⟨D1, M1, hv1, _⟩ := hsd; exact ⟨hv1.wf, hv1.len.1, hv1.mp.2⟩
          have HSS : Hid (st'.s = st.s ∧ m = r.length + 1 ∧ (p :: r).length ≤ f + 1) := ⟨hss, hm1, hlf⟩
          clear hcl hsd hput hpts hss hm1 hlf
          cases hcb : curB st'.L with
          | false =>
            have HF : Hid (putF (f + 1) st' (p :: r) = (160, { st' with L := curL st'.L })) := putNo hcb
            have HOp : Hid (Calls Tryz.prog 134 #[.pointer (some ⟨k.ps, 0, none⟩)] wr fun e w' => e = .returned (.tuple #[.int .i64 (curA st'.L), .bool false]) ∧ Sd (SdO D M k) W k { st' with L := curL st'.L } w') := by rw [← hcb]; exact open_sd HS1.out
            clear hcb
            go_wp2_with (go_at_call 134; refine HOp.out.mono ?_; rintro e w2 ⟨rfl, sv2⟩)
            go_ret
            rw [HM.out, HF.out]
            exact ⟨rfl, sv2, by show st'.S.length ≤ st.S.length + j; omega⟩
          | true =>
            obtain ⟨z, hz1, hz2, hz3, hz4⟩ := cur_in hcb
            have HZ : Hid (curA st'.L = (z : Nat) ∧ z < st'.zs.length ∧ z < st'.L.length ∧ curB st'.L = true) := ⟨hz1, by rw [← HW.out.2.1]; exact hz2, hz2, hcb⟩
            have HOp : Hid (Calls Tryz.prog 134 #[.pointer (some ⟨k.ps, 0, none⟩)] wr fun e w' => e = .returned (.tuple #[.int .i64 (z : Nat), .bool true]) ∧ Sd (SdO D M k) W k { st' with L := curL st'.L } w') := by rw [← hcb, ← hz1]; exact open_sd HS1.out
            obtain ⟨N, hN⟩ : ∃ N : Nat, N = (atZ st'.zs (z : Nat)).1.length := ⟨_, rfl⟩
            have HN : Hid (N = (atZ st'.zs (z : Nat)).1.length) := hN
            have hN1 : (N : Int) ≤ st'.s.zb := by rw [hN]; exact HW.out.1.at_le z
            have hzb := HW.out.1.right.2.2.2.1
            have hwr : IntKind.i64.wrap (st'.s.zb - (N : Int)) = st'.s.zb - (N : Int) := by rw [IntKind.wrap_i64]; omega
            have HA2 : Hid (∀ w' , Sd (SdO D M k) W k { st' with L := curL st'.L } w' → Calls Tryz.prog 135 #[.pointer (some ⟨k.pd, 0, none⟩), .int .i64 (z : Nat)] w' fun e w3 => ∃ dv, e = .returned (.tuple #[.int .i64 (N : Nat), .int .i64 dv]) ∧ Sd (SdO D M k) W k { st' with L := curL st'.L } w3) := fun w' hs => (at_sd (z : Nat) hs).mono (fun e w3 hh => ⟨_, by rw [hN]; exact hh.1, hh.2⟩)
            clear hz1 hz2 hz3 hz4 hN hcb
            obtain ⟨nd, hnd⟩ : ∃ nd : Int, nd = needP p := ⟨_, rfl⟩
            rcases Int.lt_or_le (st'.s.zb - (N : Int)) nd with hr | hr
            · have HF : Hid (putF (f + 1) { st' with L := turnZ (curL st'.L) (z : Nat) 2 3 } (p :: r) = putF (f + 1) st' (p :: r) ∧ muZ (turnZ (curL st'.L) (z : Nat) 2 3) + 1 = muZ st'.L) := by
                have e := HZ.out.1
                refine ⟨?_, ?_⟩
                · rw [← e]; exact putFi HZ.out.2.2.2 (by rw [e, ← hnd]; unfold roomZ; rw [← HN.out]; exact hr)
                · rw [← e]; exact cur_mu HZ.out.2.2.2
              have hnd' : nd = if p.x = true then 1 else 2 := hnd
              clear hnd
              cases hx : p.x
              all_goals (
                rw [hx] at hnd'
                simp only [if_true, Bool.false_eq_true, if_false] at hnd'
                subst hnd'
                simp only [hx] at HX2
                go_wp2_with (first
                  | (go_at_call 134; refine HOp.out.mono ?_; rintro e w2 ⟨rfl, sv2⟩; obtain ⟨s0, s1, d1, _⟩ := sv2.cells; have HS2 : Hid (Sd (SdO D M k) W k { st' with L := curL st'.L } w2) := sv2; clear sv2)
                  | (go_at_call 135; refine (HA2.out _ HS2.out).mono ?_; rintro e w3 ⟨dv, rfl, sv3⟩; clear s0 s1 d1; obtain ⟨s0, s1, d1, _⟩ := sv3.cells; have x2 := HX2.out _ _ sv3; have HS3 : Hid (Sd (SdO D M k) W k { st' with L := curL st'.L } w3) := sv3; clear sv3)
                  | (go_at_call 136; refine (fill_sd (z : Nat) HS3.out).mono ?_; rintro e w4 ⟨⟨v4, rfl⟩, sv4⟩; have HS4 : Hid (Sd (SdO D M k) W k { st' with L := turnZ (curL st'.L) (z : Nat) 2 3 } w4) := sv4; clear sv4))
                refine ⟨⟨p :: r, some ⟨b, off, none⟩, m, cc', f + 1, { st' with L := turnZ (curL st'.L) (z : Nat) 2 3 }, rfl, hmc, HP.out, HSS.out.1, HSS.out.2.2, hcm, HS4.out, ?_⟩, ?_⟩
                · rw [HF.out.1, ← HM.out]; unfold putM; rw [if_pos HO.out.1]
                · have e1 := HS4.out.mu.1
                  have e2 := HMu.out
                  have e3 := HF.out.2
                  rw [e1, e2]
                  simp only
                  omega)
            · obtain ⟨fn, hfn⟩ : ∃ fn, fn = frontN st' (z : Nat) (p :: r) := ⟨_, rfl⟩
              have hroom : roomZ st'.s st'.zs (z : Nat) = st'.s.zb - (N : Int) := by unfold roomZ; rw [← HN.out]
              have hf0 : 0 < fn := by rw [hfn]; exact front_pos HW.out.1.right (by rw [hroom, ← hnd]; exact hr)
              have hf1 : fn ≤ m := by rw [hfn, HSS.out.2.1]; exact (frN_le (p :: r) (roomI st'.s.b).toNat (roomZ st'.s st'.zs (z : Nat) - 1)).1
              have HFn : Hid (frN (p :: r) (roomI st'.s.b).toNat (st'.s.zb - (N : Int) - 1) = fn) := by show _ = _; rw [hfn]; unfold frontN; rw [hroom]
              have HF : Hid (putF (f + 1) st' (p :: r) = putF f (writeM { st' with L := curL st'.L } (z : Nat) ((p :: r).take fn)) ((p :: r).drop fn)) := by
                have e := HZ.out.1
                show _ = _
                rw [putGo HZ.out.2.2.2 (by rw [e, hroom, ← hnd]; exact hr), e, ← hfn]
              have HMa : Hid (∀ w', Sd (SdO D M k) W k { st' with L := curL st'.L } w' → Calls Tryz.prog 137 #[.pointer (some ⟨k.ps, 0, none⟩), .slice (some ⟨b, off, none⟩) m cc', .int .i64 (st'.s.zb - (N : Int))] w' fun e w3 => e = .returned (.int .i64 (fn : Nat)) ∧ w3 = w') := fun w' hs => by
                have := many_sd hs (some ⟨b, off, none⟩) m cc' (p :: r) X (st'.s.zb - (N : Int)) HP.out (fun x hx => (H.out.2.2.1 x hx).1) ⟨by omega, by omega⟩
                rw [show frN (p :: r) (roomI ({ st' with L := curL st'.L } : St).s.b).toNat (st'.s.zb - (N : Int) - 1) = fn from HFn.out] at this
                exact this
              obtain ⟨st3, hst3⟩ : ∃ st3, st3 = recM { st' with L := curL st'.L } (z : Nat) ((p :: r).take fn) := ⟨_, rfl⟩
              have HRec : Hid (∀ w', Sd (SdO D M k) W k { st' with L := curL st'.L } w' → Calls Tryz.prog 138 #[.pointer (some ⟨k.ps, 0, none⟩), .int .i64 (z : Nat), .slice (some ⟨b, off, none⟩) fn cc'] w' fun e w3 => e = .returned (.tuple #[]) ∧ Sd (SdO D M k) W k st3 w3 ∧ st3.S.length ≤ st'.S.length + fn) := fun w' hs => by
                rw [hst3]
                exact record_sd z hs HZ.out.2.1 (some ⟨b, off, none⟩) fn cc' ((p :: r).take fn) X (HP.out.front fn hf1) H.out.2.2.1 (by have := H.out.2.2.2; simp only; omega)
              obtain ⟨N3, hN3⟩ : ∃ N3 : Nat, N3 = (atZ st3.zs (z : Nat)).1.length := ⟨_, rfl⟩
              have HA3 : Hid (∀ w', Sd (SdO D M k) W k st3 w' → Calls Tryz.prog 135 #[.pointer (some ⟨k.pd, 0, none⟩), .int .i64 (z : Nat)] w' fun e w3 => ∃ dv, e = .returned (.tuple #[.int .i64 (N3 : Nat), .int .i64 dv]) ∧ Sd (SdO D M k) W k st3 w3) := fun w' hs => (at_sd (z : Nat) hs).mono (fun e w3 hh => ⟨_, by rw [hN3]; exact hh.1, hh.2⟩)
              have HR3 : Hid (roomZ st'.s st3.zs (z : Nat) = st'.s.zb - (N3 : Int)) := by show _ = _; unfold roomZ; rw [← hN3]
              have HW3 : Hid (st3 = recM { st' with L := curL st'.L } (z : Nat) ((p :: r).take fn)) := hst3
              have hz3 : st3.s = st'.s := by rw [hst3]; rfl
              have HL3 : Hid (st3.L = curL st'.L) := by rw [hst3]; exact rfl
              have hsf := pslice_front (some ⟨b, off, none⟩) m cc' fn (by omega)
              have hsb := pslice_back (some ⟨b, off, none⟩) m cc' fn hf1
              have HBk : Hid (PtsIn X W (kleft (some ⟨b, off, none⟩) cc' fn) (m - fn) ((p :: r).drop fn)) := HP.out.back fn hf1 hmc
              have HC3 : Hid (∀ w' , Sd (SdO D M k) W k st3 w' → w'.cell? ⟨k.ps, 0, none⟩ = some (.pointer (some ⟨k.pd, 0, none⟩)) ∧ w'.cell? ⟨k.ps, 1, none⟩ = some (.pointer (some ⟨k.pg, 0, none⟩)) ∧ w'.cell? ⟨k.pd, 1, none⟩ = some (.int .i64 st'.s.zb)) := fun w' hs => by obtain ⟨q0, q1, q2, _⟩ := hs.cells; rw [hz3] at q2; exact ⟨q0, q1, q2⟩
              clear hst3 hN3 hz3 hfn hroom
              have hnd' : nd = if p.x = true then 1 else 2 := hnd
              have hr' : ¬ st'.s.zb - (N : Int) < nd := by omega
              clear hnd hr hzb hN1
              have HEnd : Hid (∀ (st4 : St) (w4 : World), st4 = writeM { st' with L := curL st'.L } (z : Nat) ((p :: r).take fn) → Sd (SdO D M k) W k st4 w4 → st4.S.length ≤ st'.S.length + fn → (∃ (l' : List Pt) (a' : Option Addr) (m_1 cc'_1 f : Nat) (st'_1 : St), Value.slice (kleft (some ⟨b, off, none⟩) cc' fn) (m - fn) (cc' - fn) = .slice a' m_1 cc'_1 ∧ m_1 ≤ cc'_1 ∧ PtsIn X W a' m_1 l' ∧ st'_1.s = st.s ∧ l'.length ≤ f ∧ st'_1.S.length + m_1 ≤ st.S.length + j ∧ Sd (SdO D M k) W k st'_1 w4 ∧ putF f st'_1 l' = putF l.length st l) ∧ lenOf (Value.slice (kleft (some ⟨b, off, none⟩) cc' fn) (m - fn) (cc' - fn)) * 1000 + muZ (segR w4 k.pg k.gg) < lenOf (Value.slice (some ⟨b, off, none⟩) m cc') * 1000 + muZ (segR wr k.pg k.gg)) := by
                intro st4 w4 h4 sv4 hs4
                refine ⟨⟨(p :: r).drop fn, _, m - fn, cc' - fn, f, st4, rfl, by omega, HBk.out, by rw [h4]; exact HSS.out.1, ?_, by omega, sv4, ?_⟩, ?_⟩
                · have := HSS.out.2.2; simp only [List.length_drop, List.length_cons] at this ⊢; omega
                · rw [h4, ← HF.out, ← HM.out]; unfold putM; rw [if_pos HO.out.1]
                · have e1 := sv4.mu
                  simp only [lenOf]
                  omega
              clear hcm
              cases hx : p.x
              all_goals (
                rw [hx] at hnd'
                simp only [if_true, Bool.false_eq_true, if_false] at hnd'
                subst hnd'
                simp only [hx] at HX2
                by_cases hfull : (N3 : Int) = st'.s.zb
                all_goals (
                  go_wp2_with (first
                    | (go_at_call 134; refine HOp.out.mono ?_; rintro e w2 ⟨rfl, sv2⟩; obtain ⟨s0, s1, d1, _⟩ := sv2.cells; have HS2 : Hid (Sd (SdO D M k) W k { st' with L := curL st'.L } w2) := sv2; clear sv2 HOp)
                    | (go_at_call 135; refine (HA2.out _ HS2.out).mono ?_; rintro e w3 ⟨dv, rfl, sv3⟩; clear s0 s1 d1; obtain ⟨s0, s1, d1, _⟩ := sv3.cells; have x2 := HX2.out _ _ sv3; have HS3 : Hid (Sd (SdO D M k) W k { st' with L := curL st'.L } w3) := sv3; clear sv3 HA2 HS2)
                    | (go_at_call 137; refine (HMa.out _ HS3.out).mono ?_; rintro e w4 ⟨rfl, rfl⟩; clear HMa)
                    | (go_at_call 138; refine (HRec.out _ HS3.out).mono ?_; rintro e w5 ⟨rfl, sv5, hs5⟩; clear s0 s1 d1 x2; obtain ⟨s0, s1, d1⟩ := HC3.out _ sv5; have HS5 : Hid (Sd (SdO D M k) W k st3 w5 ∧ st3.S.length ≤ st'.S.length + fn) := ⟨sv5, hs5⟩; clear sv5 hs5 HRec HS3)
                    | (go_at_call 135; refine (HA3.out _ HS5.out.1).mono ?_; rintro e w6 ⟨dv6, rfl, sv6⟩; clear s0 s1 d1; obtain ⟨s0, s1, d1⟩ := HC3.out _ sv6; have HS6 : Hid (Sd (SdO D M k) W k st3 w6) := sv6; clear sv6 HA3)
                    | (go_at_call 136; refine (fill_sd (z : Nat) HS6.out).mono ?_; rintro e w7 ⟨⟨v7, rfl⟩, sv7⟩; have HS7 : Hid (Sd (SdO D M k) W k { st3 with L := turnZ st3.L (z : Nat) 2 3 } w7) := sv7; clear sv7))
                  first
                    | exact HEnd.out { st3 with L := turnZ st3.L (z : Nat) 2 3 } w7 (by rw [HL3.out]; have e := HW3.out; have e2 := HR3.out; rw [e] at e2 ⊢; exact wrm_full (st := { st' with L := curL st'.L }) (by rw [e2]; omega)) HS7.out HS5.out.2
                    | exact HEnd.out st3 w6 (by have e := HW3.out; have e2 := HR3.out; rw [e] at e2 ⊢; exact wrm_not (st := { st' with L := curL st'.L }) (by rw [e2]; omega)) HS6.out HS5.out.2))
end
end Go.Proofs.YtfcbcpjcmihooaaGreat
