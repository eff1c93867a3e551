/- Texts of this seat, one behind the other: StDq, StMk. -/
import Derived.Test.YtncnkpnfmbgifaaGreatQ14
import Derived.Test.YtncnkpnfmbgifaaGreatP23
import Derived.Test.YtncnkpnfmbgifaaGreatQ3
import Derived.Test.YtncnkpnfmbgifaaGreatP24
import Derived.Test.YtncnkpnfmbgifaaGreatQ10
import Derived.Test.YtncnkpnfmbgifaaGreatQ12
import Derived.Test.YtncnkpnfmbgifaaGreatQ6
import Derived.Test.YtncnkpnfmbgifaaGreatP21
import Derived.Deep.RegionHeld3
/- What one call of Put of the document's store does. -/
namespace Go.Proofs.YtncnkpnfmbgifaaGreat
open Go.RowKit
set_option linter.unusedVariables false
set_option maxRecDepth 4000
def segN (w : World) (p : Nat) : Nat := match w.cell? ⟨p, 4, none⟩ with | some (.slice _ n _) => n | _ => 0
def segR (w : World) (p g : Nat) : List Int := (List.range (segN w p)).map (fun i => intOf ((w.cell? ⟨g, i, none⟩).getD (.bool false)))
theorem segR_of {w : World} {p g c : Nat} {s : Sh} {L : List Int} (h : SegR w p g c s L) : segR w p g = L := by
 have e : segN w p = L.length := by unfold segN; rw [h.c4]
 unfold segR
 rw [e]
 refine List.ext_getElem (by simp) (fun i h1 h2 => ?_)
 simp only [List.getElem_map, List.getElem_range]
 rw [h.at (by simpa using h1)]
 simp [intOf, List.getD, List.getElem?_eq_getElem h2]
theorem mu_le (L : List Int) : muZ L ≤ 2 * L.length := by
 unfold muZ cntZ
 have h1 : (listZ L 1).length ≤ L.length := listTo_length L 1 L.length
 have h2 : (listZ L 2).length ≤ L.length := listTo_length L 2 L.length
 omega
theorem putFstep (f : Nat) (st : St) (p : Pt) (l : List Pt) : putF (f + 1) st (p :: l) = if (openZ st.s st.zs (needP p) st.L).2.1 = true then putF f (writeM { st with L := (openZ st.s st.zs (needP p) st.L).2.2 } (openZ st.s st.zs (needP p) st.L).1 ((p :: l).take (frontN st (openZ st.s st.zs (needP p) st.L).1 (p :: l)))) ((p :: l).drop (frontN st (openZ st.s st.zs (needP p) st.L).1 (p :: l))) else (160, { st with L := (openZ st.s st.zs (needP p) st.L).2.2 }) := rfl
theorem putNo {f : Nat} {st : St} {p : Pt} {l : List Pt} (h : curB st.L = false) : putF (f + 1) st (p :: l) = (160, { st with L := curL st.L }) := by
 rw [putFstep, openZ_done (by rw [h]; simp), h, if_neg (by simp)]
theorem putFi {f : Nat} {st : St} {p : Pt} {l : List Pt} (h : curB st.L = true) (hr : roomZ st.s st.zs (curA st.L) < needP p) : putF (f + 1) { st with L := turnZ (curL st.L) (curA st.L) 2 3 } (p :: l) = putF (f + 1) st (p :: l) := by
 rw [putFstep, putFstep]
 simp only
 rw [openZ_more h hr]
 rfl
theorem putGo {f : Nat} {st : St} {p : Pt} {l : List Pt} (h : curB st.L = true) (hr : needP p ≤ roomZ st.s st.zs (curA st.L)) : putF (f + 1) st (p :: l) = putF f (writeM { st with L := curL st.L } (curA st.L) ((p :: l).take (frontN st (curA st.L) (p :: l)))) ((p :: l).drop (frontN st (curA st.L) (p :: l))) := by
 rw [putFstep, openZ_done (by omega), h, if_pos rfl]
theorem rec_write (st : St) (z : Int) (l : List Pt) : { recM st z l with L := fullL st.s (recM st z l).zs st.L z } = writeM st z l := rfl
section
variable {R : Nat → Prop} {V w : World} {k : Rs} {st : St}
theorem open_sd (h : Sd R V k st w) : Calls Tryz.prog 91 #[.pointer (some ⟨k.ps, 0, none⟩)] w fun e w' => e = .returned (.tuple #[.int .i64 (curA st.L), .bool (curB st.L)]) ∧ Sd R V k { st with L := curL st.L } w' := by
 obtain ⟨D, M, hv, hR, ho⟩ := h
 refine (dsopen_of hv).mono ?_
 rintro e w' ⟨rfl, sv⟩
 exact ⟨rfl, Sd.next hR ho sv⟩
theorem at_sd (z : Int) (h : Sd R V k st w) : Calls Tryz.prog 92 #[.pointer (some ⟨k.pd, 0, none⟩), .int .i64 z] w fun e w' => e = .returned (.tuple #[.int .i64 ((atZ st.zs z).1.length : Nat), .int .i64 (atZ st.zs z).2]) ∧ Sd R V k st w' := by
 obtain ⟨D, M, hv, hR, ho⟩ := h
 refine (rAt_of z hv.dv).mono ?_
 rintro e w' ⟨rfl, hb⟩
 exact ⟨rfl, D, M, hv.under hb, hR, ho.under hb⟩
theorem fill_sd (z : Int) (h : Sd R V k st w) : Calls Tryz.prog 93 #[.pointer (some ⟨k.pg, 0, none⟩), .int .i64 z] w fun e w' => (∃ v, e = .returned v) ∧ Sd R V k { st with L := turnZ st.L z 2 3 } w' := by
 obtain ⟨D, M, hv, hR, ho⟩ := h
 refine (dgFill_of k.pg k.gg k.gc st.s st.L z w hv.sg).mono ?_
 rintro e w' ⟨rfl, h1, h2⟩
 exact ⟨⟨_, rfl⟩, Sd.next hR ho (hv.sgstep h1 h2 (turnZ_length _ _ _ _))⟩
theorem many_sd (h : Sd R V k st w) (a : Option Addr) (n cc : Nat) (l : List Pt) (X : Nat → Prop) (r : Int) (hl : PtsIn X V a n l) (hX : ∀ x, X x → ¬ R x) (hr : 0 ≤ r ∧ r ≤ 10000) : Calls Tryz.prog 94 #[.pointer (some ⟨k.ps, 0, none⟩), .slice a n cc, .int .i64 r] w fun e w' => e = .returned (.int .i64 (frN l (roomI st.s.b).toNat (r - 1) : Nat)) ∧ w' = w := by
 obtain ⟨D, M, hv, hR, ho⟩ := h
 exact dsmany_of hv a n cc l X r (hl.out ho hX) hr
theorem record_sd (z : Nat) (h : Sd R V k st w) (hz : z < st.zs.length) (a : Option Addr) (n cc : Nat) (l : List Pt) (X : Nat → Prop) (hl : PtsIn X V a n l) (hX : ∀ x, X x → ¬ R x ∧ x < V.heap.size) (hS : st.S.length + n ≤ 10000) :
  Calls Tryz.prog 95 #[.pointer (some ⟨k.ps, 0, none⟩), .int .i64 (z : Nat), .slice a n cc] w fun e w' => e = .returned (.tuple #[]) ∧ Sd R V k (recM st z l) w' ∧ (recM st z l).S.length ≤ st.S.length + n := by
 obtain ⟨D, M, hv, hR, ho⟩ := h
 refine (dsrecord_of z hv hz a n cc l X (hl.out ho (fun x hx => (hX x hx).1)) (fun x hx => ⟨fun hs => ?_, ?_⟩) hS).mono ?_
 ·rcases hR x hs with h | h
  ·exact (hX x hx).1 h
  ·have := (hX x hx).2; omega
 ·have := (hX x hx).2; have := ho.size; omega
 ·rintro e w' ⟨rfl, sv, hlen⟩
  exact ⟨rfl, Sd.next hR ho sv, hlen⟩
theorem Sd.cells (h : Sd R V k st w) : w.cell? ⟨k.ps, 0, none⟩ = some (.pointer (some ⟨k.pd, 0, none⟩)) ∧ w.cell? ⟨k.ps, 1, none⟩ = some (.pointer (some ⟨k.pg, 0, none⟩)) ∧ w.cell? ⟨k.pd, 1, none⟩ = some (.int .i64 st.s.zb) ∧ w.cell? ⟨k.pd, 2, none⟩ = some (.int .i64 st.s.b) := by
 obtain ⟨D, M, hv, hR, ho⟩ := h
 exact ⟨hv.cells.1, hv.cells.2.1, hv.dcells.2.1, hv.dcells.2.2.1⟩
theorem Sd.mu (h : Sd R V k st w) : muZ (segR w k.pg k.gg) = muZ st.L ∧ muZ st.L ≤ 512 := by
 obtain ⟨D, M, hv, hR, ho⟩ := h
 have h1 := mu_le st.L
 have h2 := hv.sg.len.2
 exact ⟨by rw [segR_of hv.sg], by omega⟩
theorem wrm_full {st : St} {z : Nat} {l : List Pt} (h : roomZ st.s (recM st z l).zs z = 0) : { recM st z l with L := turnZ st.L z 2 3 } = writeM st z l := by
 rw [← rec_write]
 unfold fullL
 rw [if_pos h]
theorem wrm_not {st : St} {z : Nat} {l : List Pt} (h : roomZ st.s (recM st z l).zs z ≠ 0) : recM st z l = writeM st z l := by
 rw [← rec_write]
 unfold fullL
 rw [if_neg h]
 rfl
set_option maxHeartbeats 4000000 in
theorem dsput_of {D M : Nat → Prop} {W : World} (h : SdV D M W k st) (a : Option Addr) (n cc : Nat) (l : List Pt) (X : Nat → Prop) (hl : PtsIn X W a n l) (hcc : n ≤ cc) (hX : ∀ x, X x → ¬ SdO D M k x ∧ x < W.heap.size) (hS : st.S.length + n ≤ 10000) :
  Calls Tryz.prog 49 #[.pointer (some ⟨k.ps, 0, none⟩), .slice a n cc] W fun e w' => e = .returned (.int .i64 (putM st l).1) ∧ Sd (SdO D M k) W k (putM st l).2 w' ∧ (putM st l).2.S.length ≤ st.S.length + n := by
 obtain ⟨s0, _⟩ := h.cells
 obtain ⟨_, _, d2, _⟩ := h.dcells
 have H : Hid (SdV D M W k st ∧ PtsIn X W a n l ∧ (∀ x, X x → ¬ SdO D M k x ∧ x < W.heap.size) ∧ st.S.length + n ≤ 10000) := ⟨h, hl, hX, hS⟩
 have hn1 := hl.2.1
 clear h hl hX hS
 go_enter Tryz.func49, Tryz.ntmps49
 go_wp2_with fail
 go_loopw [5] (fun x wr => ∃ j : Nat, x = .int .i64 j ∧ j ≤ n ∧ Below W.heap.size W wr ∧ ∀ i p, i < j → l[i]? = some p → p.x = true ∨ (p.d.length : Int) = st.s.b) (fun x _ => n - (intOf x).toNat)
 case atStart => exact ⟨0, rfl, Nat.zero_le _, Below.refl _ _, fun i p hi => by omega⟩
 case round =>
  obtain ⟨j, rfl, hj, hb, hok⟩ := hrel
  rcases Nat.lt_or_ge j n with hlt | hge
  ·have hj' : (j : Int) < n := by omega
   have hwj : IntKind.i64.wrap ((j : Int) + 1) = (j : Int) + 1 := by rw [IntKind.wrap_i64]; omega
   obtain ⟨p, b, off, hp, rfl, hbx, A1, L1, C1, hcl, hbin, _⟩ := (H.out.2.1.below hb).at X hlt
   have x2 : wr.cell? ⟨b, off + j * 4 + 2, none⟩ = some (.bool p.x) := hcl 2 _ rfl
   have x3 : wr.cell? ⟨b, off + j * 4 + 3, none⟩ = some (.slice A1 L1 C1) := hcl 3 _ rfl
   have c0 : wr.cell? ⟨k.ps, 0, none⟩ = some (.pointer (some ⟨k.pd, 0, none⟩)) := (H.out.1.under hb).cells.1
   have c2 : wr.cell? ⟨k.pd, 2, none⟩ = some (.int .i64 st.s.b) := (H.out.1.under hb).dcells.2.2.1
   have hL : p.d.length = L1 := hbin.1
   have HN : Hid (∀ i q, i < j → l[i]? = some q → q.x = true ∨ (q.d.length : Int) = st.s.b) := hok
   have HBV : Hid (∀ m, Below W.heap.size W (wr.drewN m)) := fun m => Go.below_drewN hb m
   have HP : Hid (l[j]? = some p ∧ p.d.length = L1) := ⟨hp, hL⟩
   clear hcl hbin hp hok hb hL s0 d2
   cases hx : p.x with
   | true =>
    rw [hx] at x2
    go_wp2
    go_quiet (fail)
    go_wp2
    go_roundw
    case rel => exact ⟨j + 1, by simp, by omega, HBV.out _, fun i q hi hq => by
     rcases Nat.lt_or_ge i j with h | h
     ·exact HN.out i q h hq
     ·obtain rfl : i = j := by omega
      rw [HP.out.1] at hq
      cases hq
      exact .inl hx⟩
    case measure => simp [intOf]; omega
   | false =>
    rw [hx] at x2
    by_cases hLb : (L1 : Int) = st.s.b
    ·have hLn : ((L1 : Int) != st.s.b) = false := by simp [hLb]
     have HLb : Hid ((L1 : Int) = st.s.b) := hLb
     clear hLb
     go_wp2
     go_quiet (fail)
     go_wp2
     go_roundw
     case rel => exact ⟨j + 1, by simp, by omega, HBV.out _, fun i q hi hq => by
      rcases Nat.lt_or_ge i j with h | h
      ·exact HN.out i q h hq
      ·obtain rfl : i = j := by omega
       rw [HP.out.1] at hq
       cases hq
       exact .inr (by rw [HP.out.2]; exact HLb.out)⟩
     case measure => simp [intOf]; omega
    ·have hLn : ((L1 : Int) != st.s.b) = true := by simp [hLb]
     have HM : Hid (putM st l = (1, st)) := by
      show _ = _
      unfold putM
      rw [if_neg (fun ho => by
       have := ho p (List.mem_of_getElem? HP.out.1)
       rw [hx, HP.out.2] at this
       exact hLb (this.resolve_left (by decide)))]
     clear hLb
     go_wp2
     go_quiet (fail)
     go_wp2
     go_ret
     rw [HM.out]
     exact ⟨rfl, (Sd.start H.out.1).under (HBV.out _), Nat.le_add_right _ _⟩
  ·obtain rfl : j = n := by omega
   have HO : Hid (okP st.s l ∧ Below W.heap.size W wr) := ⟨fun p hp => by
    obtain ⟨i, hi⟩ := List.getElem?_of_mem hp
    exact hok i p (by have := (List.getElem?_eq_some_iff.1 hi).1; rw [H.out.2.1.1] at this; exact this) hi, hb⟩
   clear hok hb s0 d2
   go_wp2_with fail
   go_loopw [1] (fun v wr => ∃ (l' : List Pt) (a' : Option Addr) (m cc' f : Nat) (st' : St), v = .slice a' m cc' ∧ m ≤ cc' ∧ PtsIn X W a' m l' ∧ st'.s = st.s ∧ l'.length ≤ f ∧ st'.S.length + m ≤ st.S.length + j ∧ Sd (SdO D M k) W k st' wr ∧ putF f st' l' = putF l.length st l) (fun v wr => lenOf v * 1000 + muZ (segR wr k.pg k.gg))
   case atStart => exact ⟨l, a, j, cc, l.length, st, rfl, hcc, H.out.2.1, rfl, Nat.le_refl _, Nat.le_refl _, (Sd.start H.out.1).under HO.out.2, rfl⟩
   case round =>
    obtain ⟨l', a', m, cc', f, st', rfl, hmc, hpts, hss, hlf, hcm, hsd, hput⟩ := hrel
    have HM : Hid (putM st l = putF f st' l') := by show _ = _; unfold putM; rw [if_pos HO.out.1, hput]
    have HMu : Hid (muZ (segR wr k.pg k.gg) = muZ st'.L) := by obtain ⟨D1, M1, hv1, _⟩ := hsd; show _ = _; rw [segR_of hv1.sg]
    cases l' with
    | nil =>
     have hm0 : m = 0 := hpts.1.symm
     subst hm0
     have HS : Hid (Sd (SdO D M k) W k st' wr) := hsd
     clear hsd hput hpts
     go_wp2
     go_ret
     rw [HM.out, putFnil]
     exact ⟨rfl, HS.out, hcm⟩
    | cons p r =>
     obtain ⟨f, rfl⟩ : ∃ f', f = f' + 1 := ⟨f - 1, by simp only [List.length_cons] at hlf; omega⟩
     have hm1 : m = r.length + 1 := hpts.1.symm
     have hm0 : 0 < m := by omega
     have hm0' : (0 : Int) < m := by omega
     obtain ⟨p', b, off, hp, rfl, hbx, A1, L1, C1, hcl, _⟩ := hpts.at X hm0
     simp only [List.getElem?_cons_zero, Option.some.injEq] at hp
     subst hp
     have HX2 : Hid (∀ w' stx, Sd (SdO D M k) W k stx w' → w'.cell? ⟨b, off + 2, none⟩ = some (.bool p.x)) := fun w' stx hs => by
      obtain ⟨_, _, _, _, ho⟩ := hs
      exact ho.cell (by simpa using hcl 2 _ rfl) (H.out.2.2.1 b hbx).1
     have HS1 : Hid (Sd (SdO D M k) W k st' wr) := hsd
     have HP : Hid (PtsIn X W (some ⟨b, off, none⟩) m (p :: r)) := hpts
     have HW : Hid (Wf st'.s st'.zs ∧ st'.L.length = st'.zs.length ∧ Good st'.S) := by obtain ⟨D1, M1, hv1, _⟩ := hsd; exact ⟨hv1.wf, hv1.len.1, hv1.mp.2⟩
     have HSS : Hid (st'.s = st.s ∧ m = r.length + 1 ∧ (p :: r).length ≤ f + 1) := ⟨hss, hm1, hlf⟩
     clear hcl hsd hput hpts hss hm1 hlf
     cases hcb : curB st'.L with
     | false =>
      have HF : Hid (putF (f + 1) st' (p :: r) = (160, { st' with L := curL st'.L })) := putNo hcb
      have HOp : Hid (Calls Tryz.prog 91 #[.pointer (some ⟨k.ps, 0, none⟩)] wr fun e w' => e = .returned (.tuple #[.int .i64 (curA st'.L), .bool false]) ∧ Sd (SdO D M k) W k { st' with L := curL st'.L } w') := by rw [← hcb]; exact open_sd HS1.out
      clear hcb
      go_wp2_with (go_at_call 91; refine HOp.out.mono ?_; rintro e w2 ⟨rfl, sv2⟩)
      go_ret
      rw [HM.out, HF.out]
      exact ⟨rfl, sv2, by show st'.S.length ≤ st.S.length + j; omega⟩
     | true =>
      obtain ⟨z, hz1, hz2, hz3, hz4⟩ := cur_in hcb
      have HZ : Hid (curA st'.L = (z : Nat) ∧ z < st'.zs.length ∧ z < st'.L.length ∧ curB st'.L = true) := ⟨hz1, by rw [← HW.out.2.1]; exact hz2, hz2, hcb⟩
      have HOp : Hid (Calls Tryz.prog 91 #[.pointer (some ⟨k.ps, 0, none⟩)] wr fun e w' => e = .returned (.tuple #[.int .i64 (z : Nat), .bool true]) ∧ Sd (SdO D M k) W k { st' with L := curL st'.L } w') := by rw [← hcb, ← hz1]; exact open_sd HS1.out
      obtain ⟨N, hN⟩ : ∃ N : Nat, N = (atZ st'.zs (z : Nat)).1.length := ⟨_, rfl⟩
      have HN : Hid (N = (atZ st'.zs (z : Nat)).1.length) := hN
      have hN1 : (N : Int) ≤ st'.s.zb := by rw [hN]; exact HW.out.1.at_le z
      have hzb := HW.out.1.right.2.2.2.1
      have hwr : IntKind.i64.wrap (st'.s.zb - (N : Int)) = st'.s.zb - (N : Int) := by rw [IntKind.wrap_i64]; omega
      have HA2 : Hid (∀ w' , Sd (SdO D M k) W k { st' with L := curL st'.L } w' → Calls Tryz.prog 92 #[.pointer (some ⟨k.pd, 0, none⟩), .int .i64 (z : Nat)] w' fun e w3 => ∃ dv, e = .returned (.tuple #[.int .i64 (N : Nat), .int .i64 dv]) ∧ Sd (SdO D M k) W k { st' with L := curL st'.L } w3) := fun w' hs => (at_sd (z : Nat) hs).mono (fun e w3 hh => ⟨_, by rw [hN]; exact hh.1, hh.2⟩)
      clear hz1 hz2 hz3 hz4 hN hcb
      obtain ⟨nd, hnd⟩ : ∃ nd : Int, nd = needP p := ⟨_, rfl⟩
      rcases Int.lt_or_le (st'.s.zb - (N : Int)) nd with hr | hr
      ·have HF : Hid (putF (f + 1) { st' with L := turnZ (curL st'.L) (z : Nat) 2 3 } (p :: r) = putF (f + 1) st' (p :: r) ∧ muZ (turnZ (curL st'.L) (z : Nat) 2 3) + 1 = muZ st'.L) := by
        have e := HZ.out.1
        refine ⟨?_, ?_⟩
        ·rw [← e]; exact putFi HZ.out.2.2.2 (by rw [e, ← hnd]; unfold roomZ; rw [← HN.out]; exact hr)
        ·rw [← e]; exact cur_mu HZ.out.2.2.2
       have hnd' : nd = if p.x = true then 1 else 2 := hnd
       clear hnd
       cases hx : p.x
       all_goals (
        rw [hx] at hnd'
        simp only [if_true, Bool.false_eq_true, if_false] at hnd'
        subst hnd'
        simp only [hx] at HX2
        go_wp2_with (first
         | (go_at_call 91; refine HOp.out.mono ?_; rintro e w2 ⟨rfl, sv2⟩; obtain ⟨s0, s1, d1, _⟩ := sv2.cells; have HS2 : Hid (Sd (SdO D M k) W k { st' with L := curL st'.L } w2) := sv2; clear sv2)
         | (go_at_call 92; refine (HA2.out _ HS2.out).mono ?_; rintro e w3 ⟨dv, rfl, sv3⟩; clear s0 s1 d1; obtain ⟨s0, s1, d1, _⟩ := sv3.cells; have x2 := HX2.out _ _ sv3; have HS3 : Hid (Sd (SdO D M k) W k { st' with L := curL st'.L } w3) := sv3; clear sv3)
         | (go_at_call 93; refine (fill_sd (z : Nat) HS3.out).mono ?_; rintro e w4 ⟨⟨v4, rfl⟩, sv4⟩; have HS4 : Hid (Sd (SdO D M k) W k { st' with L := turnZ (curL st'.L) (z : Nat) 2 3 } w4) := sv4; clear sv4))
        refine ⟨⟨p :: r, some ⟨b, off, none⟩, m, cc', f + 1, { st' with L := turnZ (curL st'.L) (z : Nat) 2 3 }, rfl, hmc, HP.out, HSS.out.1, HSS.out.2.2, hcm, HS4.out, ?_⟩, ?_⟩
        ·rw [HF.out.1, ← HM.out]; unfold putM; rw [if_pos HO.out.1]
        ·have e1 := HS4.out.mu.1
         have e2 := HMu.out
         have e3 := HF.out.2
         rw [e1, e2]
         simp only
         omega)
      ·obtain ⟨fn, hfn⟩ : ∃ fn, fn = frontN st' (z : Nat) (p :: r) := ⟨_, rfl⟩
       have hroom : roomZ st'.s st'.zs (z : Nat) = st'.s.zb - (N : Int) := by unfold roomZ; rw [← HN.out]
       have hf0 : 0 < fn := by rw [hfn]; exact front_pos HW.out.1.right (by rw [hroom, ← hnd]; exact hr)
       have hf1 : fn ≤ m := by rw [hfn, HSS.out.2.1]; exact (frN_le (p :: r) (roomI st'.s.b).toNat (roomZ st'.s st'.zs (z : Nat) - 1)).1
       have HFn : Hid (frN (p :: r) (roomI st'.s.b).toNat (st'.s.zb - (N : Int) - 1) = fn) := by show _ = _; rw [hfn]; unfold frontN; rw [hroom]
       have HF : Hid (putF (f + 1) st' (p :: r) = putF f (writeM { st' with L := curL st'.L } (z : Nat) ((p :: r).take fn)) ((p :: r).drop fn)) := by
        have e := HZ.out.1
        show _ = _
        rw [putGo HZ.out.2.2.2 (by rw [e, hroom, ← hnd]; exact hr), e, ← hfn]
       have HMa : Hid (∀ w', Sd (SdO D M k) W k { st' with L := curL st'.L } w' → Calls Tryz.prog 94 #[.pointer (some ⟨k.ps, 0, none⟩), .slice (some ⟨b, off, none⟩) m cc', .int .i64 (st'.s.zb - (N : Int))] w' fun e w3 => e = .returned (.int .i64 (fn : Nat)) ∧ w3 = w') := fun w' hs => by
        have := many_sd hs (some ⟨b, off, none⟩) m cc' (p :: r) X (st'.s.zb - (N : Int)) HP.out (fun x hx => (H.out.2.2.1 x hx).1) ⟨by omega, by omega⟩
        rw [show frN (p :: r) (roomI ({ st' with L := curL st'.L } : St).s.b).toNat (st'.s.zb - (N : Int) - 1) = fn from HFn.out] at this
        exact this
       obtain ⟨st3, hst3⟩ : ∃ st3, st3 = recM { st' with L := curL st'.L } (z : Nat) ((p :: r).take fn) := ⟨_, rfl⟩
       have HRec : Hid (∀ w', Sd (SdO D M k) W k { st' with L := curL st'.L } w' → Calls Tryz.prog 95 #[.pointer (some ⟨k.ps, 0, none⟩), .int .i64 (z : Nat), .slice (some ⟨b, off, none⟩) fn cc'] w' fun e w3 => e = .returned (.tuple #[]) ∧ Sd (SdO D M k) W k st3 w3 ∧ st3.S.length ≤ st'.S.length + fn) := fun w' hs => by
        rw [hst3]
        exact record_sd z hs HZ.out.2.1 (some ⟨b, off, none⟩) fn cc' ((p :: r).take fn) X (HP.out.front fn hf1) H.out.2.2.1 (by have := H.out.2.2.2; simp only; omega)
       obtain ⟨N3, hN3⟩ : ∃ N3 : Nat, N3 = (atZ st3.zs (z : Nat)).1.length := ⟨_, rfl⟩
       have HA3 : Hid (∀ w', Sd (SdO D M k) W k st3 w' → Calls Tryz.prog 92 #[.pointer (some ⟨k.pd, 0, none⟩), .int .i64 (z : Nat)] w' fun e w3 => ∃ dv, e = .returned (.tuple #[.int .i64 (N3 : Nat), .int .i64 dv]) ∧ Sd (SdO D M k) W k st3 w3) := fun w' hs => (at_sd (z : Nat) hs).mono (fun e w3 hh => ⟨_, by rw [hN3]; exact hh.1, hh.2⟩)
       have HR3 : Hid (roomZ st'.s st3.zs (z : Nat) = st'.s.zb - (N3 : Int)) := by show _ = _; unfold roomZ; rw [← hN3]
       have HW3 : Hid (st3 = recM { st' with L := curL st'.L } (z : Nat) ((p :: r).take fn)) := hst3
       have hz3 : st3.s = st'.s := by rw [hst3]; rfl
       have HL3 : Hid (st3.L = curL st'.L) := by rw [hst3]; exact rfl
       have hsf := pslice_front (some ⟨b, off, none⟩) m cc' fn (by omega)
       have hsb := pslice_back (some ⟨b, off, none⟩) m cc' fn hf1
       have HBk : Hid (PtsIn X W (kleft (some ⟨b, off, none⟩) cc' fn) (m - fn) ((p :: r).drop fn)) := HP.out.back fn hf1 hmc
       have HC3 : Hid (∀ w' , Sd (SdO D M k) W k st3 w' → w'.cell? ⟨k.ps, 0, none⟩ = some (.pointer (some ⟨k.pd, 0, none⟩)) ∧ w'.cell? ⟨k.ps, 1, none⟩ = some (.pointer (some ⟨k.pg, 0, none⟩)) ∧ w'.cell? ⟨k.pd, 1, none⟩ = some (.int .i64 st'.s.zb)) := fun w' hs => by obtain ⟨q0, q1, q2, _⟩ := hs.cells; rw [hz3] at q2; exact ⟨q0, q1, q2⟩
       clear hst3 hN3 hz3 hfn hroom
       have hnd' : nd = if p.x = true then 1 else 2 := hnd
       have hr' : ¬ st'.s.zb - (N : Int) < nd := by omega
       clear hnd hr hzb hN1
       have HEnd : Hid (∀ (st4 : St) (w4 : World), st4 = writeM { st' with L := curL st'.L } (z : Nat) ((p :: r).take fn) → Sd (SdO D M k) W k st4 w4 → st4.S.length ≤ st'.S.length + fn → (∃ (l' : List Pt) (a' : Option Addr) (m_1 cc'_1 f : Nat) (st'_1 : St), Value.slice (kleft (some ⟨b, off, none⟩) cc' fn) (m - fn) (cc' - fn) = .slice a' m_1 cc'_1 ∧ m_1 ≤ cc'_1 ∧ PtsIn X W a' m_1 l' ∧ st'_1.s = st.s ∧ l'.length ≤ f ∧ st'_1.S.length + m_1 ≤ st.S.length + j ∧ Sd (SdO D M k) W k st'_1 w4 ∧ putF f st'_1 l' = putF l.length st l) ∧ lenOf (Value.slice (kleft (some ⟨b, off, none⟩) cc' fn) (m - fn) (cc' - fn)) * 1000 + muZ (segR w4 k.pg k.gg) < lenOf (Value.slice (some ⟨b, off, none⟩) m cc') * 1000 + muZ (segR wr k.pg k.gg)) := by
        intro st4 w4 h4 sv4 hs4
        refine ⟨⟨(p :: r).drop fn, _, m - fn, cc' - fn, f, st4, rfl, by omega, HBk.out, by rw [h4]; exact HSS.out.1, ?_, by omega, sv4, ?_⟩, ?_⟩
        ·have := HSS.out.2.2; simp only [List.length_drop, List.length_cons] at this ⊢; omega
        ·rw [h4, ← HF.out, ← HM.out]; unfold putM; rw [if_pos HO.out.1]
        ·have e1 := sv4.mu
         simp only [lenOf]
         omega
       clear hcm
       cases hx : p.x
       all_goals (
        rw [hx] at hnd'
        simp only [if_true, Bool.false_eq_true, if_false] at hnd'
        subst hnd'
        simp only [hx] at HX2
        by_cases hfull : (N3 : Int) = st'.s.zb
        all_goals (
         go_wp2_with (first
          | (go_at_call 91; refine HOp.out.mono ?_; rintro e w2 ⟨rfl, sv2⟩; obtain ⟨s0, s1, d1, _⟩ := sv2.cells; have HS2 : Hid (Sd (SdO D M k) W k { st' with L := curL st'.L } w2) := sv2; clear sv2 HOp)
          | (go_at_call 92; refine (HA2.out _ HS2.out).mono ?_; rintro e w3 ⟨dv, rfl, sv3⟩; clear s0 s1 d1; obtain ⟨s0, s1, d1, _⟩ := sv3.cells; have x2 := HX2.out _ _ sv3; have HS3 : Hid (Sd (SdO D M k) W k { st' with L := curL st'.L } w3) := sv3; clear sv3 HA2 HS2)
          | (go_at_call 94; refine (HMa.out _ HS3.out).mono ?_; rintro e w4 ⟨rfl, rfl⟩; clear HMa)
          | (go_at_call 95; refine (HRec.out _ HS3.out).mono ?_; rintro e w5 ⟨rfl, sv5, hs5⟩; clear s0 s1 d1 x2; obtain ⟨s0, s1, d1⟩ := HC3.out _ sv5; have HS5 : Hid (Sd (SdO D M k) W k st3 w5 ∧ st3.S.length ≤ st'.S.length + fn) := ⟨sv5, hs5⟩; clear sv5 hs5 HRec HS3)
          | (go_at_call 92; refine (HA3.out _ HS5.out.1).mono ?_; rintro e w6 ⟨dv6, rfl, sv6⟩; clear s0 s1 d1; obtain ⟨s0, s1, d1⟩ := HC3.out _ sv6; have HS6 : Hid (Sd (SdO D M k) W k st3 w6) := sv6; clear sv6 HA3)
          | (go_at_call 93; refine (fill_sd (z : Nat) HS6.out).mono ?_; rintro e w7 ⟨⟨v7, rfl⟩, sv7⟩; have HS7 : Hid (Sd (SdO D M k) W k { st3 with L := turnZ st3.L (z : Nat) 2 3 } w7) := sv7; clear sv7))
         first
          | exact HEnd.out { st3 with L := turnZ st3.L (z : Nat) 2 3 } w7 (by rw [HL3.out]; have e := HW3.out; have e2 := HR3.out; rw [e] at e2 ⊢; exact wrm_full (st := { st' with L := curL st'.L }) (by rw [e2]; omega)) HS7.out HS5.out.2
          | exact HEnd.out st3 w6 (by have e := HW3.out; have e2 := HR3.out; rw [e] at e2 ⊢; exact wrm_not (st := { st' with L := curL st'.L }) (by rw [e2]; omega)) HS6.out HS5.out.2))
end
end Go.Proofs.YtncnkpnfmbgifaaGreat

/- What one call of Flush, Mark, Clear, Last, Low, Seg of the program's store does. -/
namespace Go.Proofs.YtncnkpnfmbgifaaGreat
open Go.RowKit
set_option linter.unusedVariables false
set_option maxRecDepth 4000
def flushM (st : St) : St := { st with zs := flushZ st.zs }
open Classical in
noncomputable def markM (st : St) : Int × St := (svE st.s (1 - st.o) st.S, { st with zs := svZ st.s st.zs (1 - st.o) st.q st.S, o := if svE st.s (1 - st.o) st.S = 0 then 1 - st.o else st.o })
def emIn (S : List Pl) (z : Int) : Prop := ∀ p ∈ S, p.2.1 ≠ z
instance (S : List Pl) (z : Int) : Decidable (emIn S z) := by unfold emIn; infer_instance
def clearOk (st : St) (z : Int) : Prop := stZ st.L z = 3 ∧ emIn st.S z
instance (st : St) (z : Int) : Decidable (clearOk st z) := by unfold clearOk; infer_instance
def clearM (st : St) (z : Int) : St := if clearOk st z then { st with zs := resetZ st.zs z, la := st.la.set z.toNat 0, L := turnZ st.L z 3 1 } else st
theorem emIn_iff {S : List Pl} {z : Int} {L : List Pl} (h : IsIn S z L) : emIn S z ↔ L.length = 0 := by
 constructor
 ·intro he
  cases L with
  | nil => rfl
  | cons p r => exact (he p ((h.2 p).1 (by simp)).1 ((h.2 p).1 (by simp)).2).elim
 ·intro he p hp hz
  have := (h.2 p).2 ⟨hp, hz⟩
  rw [List.length_eq_zero_iff.1 he] at this
  simp at this
theorem st3_in {L : List Int} {z : Int} (h : stZ L z = 3) : ∃ i : Nat, z = i ∧ i < L.length := by
 by_cases hz : z < 0 ∨ (L.length : Int) ≤ z
 ·rw [stZ_out hz] at h
  cases h
 ·exact ⟨z.toNat, by omega, by omega⟩
section
variable {D : Nat → Prop} {W W' : World} {k : Bs} {st : St} {c : Nat}
theorem StV.svstep {zs' : List Zn} (h : StV D W k st c) (hs : SvSt 122 D W k.pd st.s zs' W') (hw : Wf st.s zs') : Sv D W k { st with zs := zs' } c W' := by
 obtain ⟨O', hd, hO, ho⟩ := hs
 have hlen : zs'.length = st.zs.length := by have := hw.len; have := h.wf.len; omega
 have hn : ∀ x, k.has x → ¬ D x := h.nd
 refine ⟨fun x => O' x ∧ x < W'.heap.size, ⟨ho.blk h.hp (hn _ (.inl rfl)), hd.there, h.sg.out ho (hn _ (.inr (.inl rfl))) (hn _ (.inr (.inr (.inl rfl)))), h.mp.out ho ?_, ho.blk h.hl (hn _ (.inr (.inr (.inr (.inr (.inr (.inr rfl))))))), hw, h.fq, by rw [hlen]; exact h.len, fun x hx => hx.2, ?_, h.ap⟩, fun x hx => hO x hx.1, ho.mono (fun j e _ => .inl e)⟩
 ·rintro x (rfl | rfl | rfl)
  ·exact hn _ (.inr (.inr (.inr (.inl rfl))))
  ·exact hn _ (.inr (.inr (.inr (.inr (.inl rfl)))))
  ·exact hn _ (.inr (.inr (.inr (.inr (.inr (.inl rfl))))))
 ·rintro x hx ⟨hd, _⟩
  rcases hO x hd with h' | h'
  ·exact hn x hx h'
  ·have := h.kin x hx; omega
theorem sflush_of (h : StV D W k st c) : Calls Tryz.prog 45 #[.pointer (some ⟨k.ps, 0, none⟩)] W fun e w' => (∃ v, e = .returned v) ∧ Sv D W k (flushM st) c w' := by
 obtain ⟨c0, _⟩ := h.cells
 have HF : Hid (Calls Tryz.prog 86 #[.pointer (some ⟨k.pd, 0, none⟩)] W fun e w' => (∃ v, e = .returned v) ∧ Sv D W k (flushM st) c w') := (flush_of h.dv).mono (fun e w' hh => ⟨hh.1, h.dvstep hh.2 h.wf.flush⟩)
 clear h
 go_enter Tryz.func45, Tryz.ntmps45
 go_wp2_with (go_at_call 86; refine HF.out.mono ?_; rintro e w2 ⟨⟨v, rfl⟩, sv⟩)
 first | go_end0 | refine bodyPost_ret (results_none rfl _ _ _) rfl ?_
 exact ⟨⟨_, rfl⟩, sv⟩
theorem sseg_of (h : StV D W k st c) : Calls Tryz.prog 23 #[.pointer (some ⟨k.ps, 0, none⟩)] W fun e w' => e = .returned (.pointer (some ⟨k.pg, 0, none⟩)) ∧ w' = W := by
 obtain ⟨_, c1, _⟩ := h.cells
 clear h
 go_enter Tryz.func23, Tryz.ntmps23
 go_wp2
 go_ret
 exact ⟨rfl, rfl⟩
theorem slow_of (h : StV D W k st c) : Calls Tryz.prog 55 #[.pointer (some ⟨k.ps, 0, none⟩)] W fun e w' => e = .returned (.bool (lowB st.L st.s.r)) ∧ Below W.heap.size W w' := by
 obtain ⟨_, c1, _⟩ := h.cells
 have HL : Hid (Calls Tryz.prog 105 #[.pointer (some ⟨k.pg, 0, none⟩)] W fun e w' => e = .returned (.bool (lowB st.L st.s.r)) ∧ Below W.heap.size W w') := gLow_of k.pg k.gg st.s.r st.L W h.sg
 clear h
 go_enter Tryz.func55, Tryz.ntmps55
 go_wp2_with (go_at_call 105; refine HL.out.mono ?_; rintro e w2 ⟨rfl, hb⟩)
 go_ret
 exact ⟨rfl, hb⟩
def lastI (la : List Int) (z : Int) : Int := if 0 ≤ z then la.getD z.toNat 0 else 0
theorem slast_of (z : Int) (h : StV D W k st c) : Calls Tryz.prog 28 #[.pointer (some ⟨k.ps, 0, none⟩), .int .i64 z] W fun e w' => e = .returned (.int .u64 (lastI st.la z)) ∧ Below W.heap.size W w' := by
 obtain ⟨_, _, _, _, c4, _⟩ := h.cells
 obtain ⟨N, hN⟩ : ∃ N, N = st.la.length := ⟨_, rfl⟩
 rw [← hN] at c4
 by_cases h0 : z < 0
 ·have HE : Hid (lastI st.la z = 0) := by show _ = _; unfold lastI; rw [if_neg (by omega)]
  clear h
  go_enter Tryz.func28, Tryz.ntmps28
  go_wp2
  go_ret
  exact ⟨by rw [HE.out]; rfl, Below.refl _ _⟩
 ·obtain ⟨i, rfl⟩ : ∃ i : Nat, z = i := ⟨z.toNat, by omega⟩
  by_cases h1 : i < N
  ·have hlt : ¬ (N : Int) ≤ i := by omega
   have hi' : (i : Int) < N := by omega
   have y0 : W.cell? ⟨k.lb, i, none⟩ = some (.int .u64 (lastI st.la i)) := by
    rw [h.hl.cell]
    unfold lastI
    simp [kInts, hN ▸ h1, List.getD]
   generalize lastI st.la i = v at y0 ⊢
   clear h hN
   go_enter Tryz.func28, Tryz.ntmps28
   go_wp2
   go_ret
   exact ⟨rfl, Below.refl _ _⟩
  ·have hge : (N : Int) ≤ i := by omega
   have HE : Hid (lastI st.la i = 0) := by show _ = _; unfold lastI; simp [List.getD, List.getElem?_eq_none (by omega : st.la.length ≤ i)]
   clear h hN
   go_enter Tryz.func28, Tryz.ntmps28
   go_wp2
   go_ret
   exact ⟨by rw [HE.out]; rfl, Below.refl _ _⟩
set_option maxHeartbeats 4000000 in
theorem smark_of (h : StV D W k st c) (hc : c < 100000) (hS : st.S.length ≤ 100000) (ho : st.o = 0 ∨ st.o = 1) : Calls Tryz.prog 46 #[.pointer (some ⟨k.ps, 0, none⟩)] W fun e w' => e = .returned (.int .u16 (markM st).1) ∧ Sv D W k (markM st).2 c w' := by
 obtain ⟨c0, c1, c2, c3, c4, c5⟩ := h.cells
 obtain ⟨o1, ho1⟩ : ∃ o1, o1 = 1 - st.o := ⟨_, rfl⟩
 have hwo : IntKind.i64.wrap (1 - st.o) = o1 := by rw [ho1, IntKind.wrap_i64]; omega
 have H : Hid (StV D W k st c ∧ o1 = 1 - st.o) := ⟨h, ho1⟩
 have kc : ∀ Y, Below W.heap.size W Y → Y.cell? ⟨k.ps, 0, none⟩ = some (.pointer (some ⟨k.pd, 0, none⟩)) ∧ Y.cell? ⟨k.ps, 2, none⟩ = some (.pointer (some ⟨k.pm, 0, none⟩)) ∧ Y.cell? ⟨k.ps, 3, none⟩ = some (.int .u64 st.q) := fun Y hY => ⟨(h.under hY).cells.1, (h.under hY).cells.2.2.1, (h.under hY).cells.2.2.2.1⟩
 have HAl : Hid (∀ Y, Below W.heap.size W Y → Calls Tryz.prog 20 #[.pointer (some ⟨k.pm, 0, none⟩)] Y fun e Z => ∃ a n cc, e = .returned (.slice a n cc) ∧ (KIn Z a n st.S ∧ n ≤ cc ∧ Below W.heap.size W Z) ∧ Z.cell? ⟨k.ps, 0, none⟩ = some (.pointer (some ⟨k.pd, 0, none⟩)) ∧ Z.cell? ⟨k.ps, 2, none⟩ = some (.pointer (some ⟨k.pm, 0, none⟩)) ∧ Z.cell? ⟨k.ps, 3, none⟩ = some (.int .u64 st.q)) := fun Y hY => by
  refine (mAll_of k.pm k.b1 k.b2 st.S c Y (h.under hY).mp hc).mono ?_
  rintro e Z ⟨a, n, cc, rfl, ow, hZ⟩
  have hb := hY.trans (hZ.mono hY.size)
  have hn : st.S.length = n := (own_pl ow).1
  exact ⟨a, n, cc, rfl, ⟨own_kin ow (by unfold maxLen; omega) h.mp.good.fits, lown_cap ow, hb⟩, kc Z hb⟩
 have HSa : Hid (∀ Y a n cc, (KIn Y a n st.S ∧ n ≤ cc ∧ Below W.heap.size W Y) → Calls Tryz.prog 69 #[.pointer (some ⟨k.pd, 0, none⟩), .int .i64 o1, .agg #[.int .u64 st.q, .slice a n cc]] Y fun e Z => e = .returned (.int .u16 (svE st.s o1 st.S)) ∧ Sv D W k { st with zs := svZ st.s st.zs o1 st.q st.S } c Z ∧ Z.cell? ⟨k.ps, 0, none⟩ = some (.pointer (some ⟨k.pd, 0, none⟩)) ∧ Z.cell? ⟨k.ps, 2, none⟩ = some (.pointer (some ⟨k.pm, 0, none⟩)) ∧ Z.cell? ⟨k.ps, 3, none⟩ = some (.int .u64 st.q)) := fun Y a n cc hY => by
  have hv := h.under hY.2.2
  refine (ksave_of o1 st.q a n cc st.S hv.dv hv.wf hv.fq hY.1 hY.2.1).mono ?_
  rintro e Z ⟨rfl, hs⟩
  have sv := hv.svstep hs (swf_svZ hv.wf _ _ _)
  obtain ⟨D9, hv9, hD9, ho9⟩ := sv
  exact ⟨rfl, Sv.from hY.2.2 ⟨D9, hv9, hD9, ho9⟩, hv9.cells.1, hv9.cells.2.2.1, hv9.cells.2.2.2.1⟩
 clear h kc ho1
 go_enter Tryz.func46, Tryz.ntmps46
 go_wp2_with fail
 go_region_held3 (fun Y => Y.cell? ⟨k.ps, 0, none⟩ = some (.pointer (some ⟨k.pd, 0, none⟩)) ∧ Y.cell? ⟨k.ps, 2, none⟩ = some (.pointer (some ⟨k.pm, 0, none⟩)) ∧ Y.cell? ⟨k.ps, 3, none⟩ = some (.int .u64 st.q)) (first | exact ⟨c0, c2, c3⟩ | exact ⟨d0, d1, d2⟩ | exact ⟨e0, e1, e2⟩)
  (first
  | (go_simp; go_at_call 20; refine (HAl.out _ (by exact (Below.refl _ _).drew)).mono ?_; rintro e Y ⟨a, n, cc, rfl, hY, d0, d1, d2⟩)
  | (go_simp; go_at_call 69; refine (HSa.out _ a n cc hY).mono ?_; rintro e Z ⟨rfl, sv, e0, e1, e2⟩))
 have HZ : Hid (Sv D W k { st with zs := svZ st.s st.zs o1 st.q st.S } c Z) := sv
 clear sv hY d0 d1 d2 e0 e1 e2 c0 c1 c2 c3 c4 c5 HAl HSa
 by_cases hE : svE st.s o1 st.S = 0
 ·have HM : Hid (markM st = (0, { st with zs := svZ st.s st.zs o1 st.q st.S, o := o1 })) := by
   have e := H.out.2
   show _ = _
   unfold markM
   rw [← e, if_pos hE, hE]
  obtain ⟨D9, hv9, hD9, ho9⟩ := HZ.out
  obtain ⟨_, _, _, _, _, z5⟩ := hv9.cells
  have f5 := hv9.hp.frozen 5
  have HV : Hid (Sv D W k { st with zs := svZ st.s st.zs o1 st.q st.S, o := o1 } c (Z.setCell ⟨k.ps, 5, none⟩ (.int .i64 o1))) := Sv.next hD9 ho9 (hv9.setP (q := st.q) (o := o1) rfl hv9.fq)
  clear hv9 hD9 ho9 HZ
  simp only at z5
  rw [hE]
  clear hE
  go_wp2
  go_ret
  rw [HM.out]
  exact ⟨rfl, HV.out⟩
 ·have hE' : (svE st.s o1 st.S == 0) = false := by simpa using hE
  have HM : Hid (markM st = (svE st.s o1 st.S, { st with zs := svZ st.s st.zs o1 st.q st.S })) := by
   have e := H.out.2
   show _ = _
   unfold markM
   rw [← e, if_neg hE]
  generalize svE st.s o1 st.S = E at HM hE hE' ⊢
  go_wp2
  go_ret
  rw [HM.out]
  exact ⟨rfl, HZ.out⟩
set_option maxHeartbeats 4000000 in
theorem sclear_of (z : Int) (h : StV D W k st c) (hc : c < 100000) : Calls Tryz.prog 47 #[.pointer (some ⟨k.ps, 0, none⟩), .int .i64 z] W fun e w' => e = .returned (.bool (decide (clearOk st z))) ∧ Sv D W k (clearM st z) c w' := by
 obtain ⟨c0, c1, c2, c3, c4, c5⟩ := h.cells
 have H : Hid (StV D W k st c) := h
 have HSt : Hid (∀ Y, Below W.heap.size W Y → Calls Tryz.prog 24 #[.pointer (some ⟨k.pg, 0, none⟩), .int .i64 z] Y fun e Z => e = .returned (.int .u8 (stZ st.L z)) ∧ Z = Y) := fun Y hY => gState_of k.pg k.gg st.s.r st.L z Y (h.under hY).sg
 by_cases h3 : stZ st.L z = 3
 ·obtain ⟨i, rfl, hi⟩ := st3_in h3
  have hiz : i < st.la.length := by have := h.len; omega
  have kc : ∀ Y, Below W.heap.size W Y → Y.cell? ⟨k.ps, 1, none⟩ = some (.pointer (some ⟨k.pg, 0, none⟩)) ∧ Y.cell? ⟨k.ps, 2, none⟩ = some (.pointer (some ⟨k.pm, 0, none⟩)) := fun Y hY => ⟨(h.under hY).cells.2.1, (h.under hY).cells.2.2.1⟩
  by_cases he : emIn st.S i
  ·have HIn : Hid (∀ Y, Below W.heap.size W Y → Calls Tryz.prog 27 #[.pointer (some ⟨k.pm, 0, none⟩), .int .i64 (i : Nat)] Y fun e Z => ∃ a cc, e = .returned (.slice a 0 cc) ∧ (Below W.heap.size W Z) ∧ Z.cell? ⟨k.ps, 1, none⟩ = some (.pointer (some ⟨k.pg, 0, none⟩)) ∧ Z.cell? ⟨k.ps, 2, none⟩ = some (.pointer (some ⟨k.pm, 0, none⟩))) := fun Y hY => by
    refine (mIn_of k.pm k.b1 k.b2 st.S c (i : Nat) Y (h.under hY).mp hc).mono ?_
    rintro e Z ⟨L, a, n, cc, rfl, hI, ow, hZ⟩
    have hb := hY.trans (hZ.mono hY.size)
    have hn : L.length = n := (own_pl ow).1
    rw [(emIn_iff hI).1 he] at hn
    subst hn
    exact ⟨a, cc, rfl, hb, kc Z hb⟩
   have HM : Hid (decide (clearOk st (i : Nat)) = true ∧ clearM st (i : Nat) = { st with zs := resetZ st.zs (i : Nat), la := st.la.set i 0, L := turnZ st.L (i : Nat) 3 1 }) := by
    have ho : clearOk st (i : Nat) := ⟨h3, he⟩
    refine ⟨by simp [ho], ?_⟩
    unfold clearM
    rw [if_pos ho, Int.toNat_natCast]
   have HRe : Hid (∀ Y, Below W.heap.size W Y → Calls Tryz.prog 87 #[.pointer (some ⟨k.pd, 0, none⟩), .int .i64 (i : Nat)] Y fun e Z => (∃ v, e = .returned v) ∧ Sv D W k { st with zs := resetZ st.zs (i : Nat) } c Z) := fun Y hY => by
    have hv := h.under hY
    refine (reset_of (i : Nat) hv.dv).mono ?_
    rintro e Z ⟨rfl, hs⟩
    exact ⟨⟨_, rfl⟩, Sv.from hY (hv.dvstep hs (hv.wf.reset _))⟩
   have HAf : Hid (∀ Z, Sv D W k { st with zs := resetZ st.zs (i : Nat) } c Z → (∃ old, Z.cell? ⟨k.lb, i, none⟩ = some (.int .u64 old)) ∧ Z.frozen? ⟨k.lb, i, none⟩ = false ∧ Z.cell? ⟨k.ps, 1, none⟩ = some (.pointer (some ⟨k.pg, 0, none⟩)) ∧ Z.cell? ⟨k.ps, 4, none⟩ = some (.slice (some ⟨k.lb, 0, none⟩) st.la.length st.la.length) ∧ k.ps ≠ k.lb ∧ k.lb ≠ k.ps ∧ Calls Tryz.prog 88 #[.pointer (some ⟨k.pg, 0, none⟩), .int .i64 (i : Nat)] (Z.setCell ⟨k.lb, i, none⟩ (.int .u64 0)) fun e w' => e = .returned (.bool true) ∧ Sv D W k { st with zs := resetZ st.zs (i : Nat), la := st.la.set i 0, L := turnZ st.L (i : Nat) 3 1 } c w') := by
    intro Z sv
    obtain ⟨D4, hv4, hD4, ho4⟩ := sv
    have n1 : k.ps ≠ k.lb := (nodup7 hv4.ap).1.2.2.2.2.2
    refine ⟨⟨st.la[i], by rw [hv4.hl.cell]; simp [kInts, hiz]⟩, hv4.hl.frozen i, hv4.cells.2.1, hv4.cells.2.2.2.2.1, n1, fun e => n1 e.symm, ?_⟩
    obtain ⟨D5, hv5, hD5, ho5⟩ := Sv.next hD4 ho4 (hv4.setLa i 0)
    refine (gClear_of k.pg k.gg st.s.r st.L (i : Nat) _ hv5.sg).mono ?_
    rintro e w' ⟨rfl, h1, h2⟩
    exact ⟨by simp [h3], Sv.next hD5 ho5 (hv5.sgstep h1 h2 (turnZ_length _ _ _ _))⟩
   have HC0 : Hid (∀ Y, Below W.heap.size W Y → Y.cell? ⟨k.ps, 0, none⟩ = some (.pointer (some ⟨k.pd, 0, none⟩))) := fun Y hY => (h.under hY).cells.1
   have h3' : (stZ st.L (i : Nat) != 3) = false := by simp [h3]
   clear h kc he
   go_enter Tryz.func47, Tryz.ntmps47
   go_wp2_with (first
    | (go_at_call 24; refine (HSt.out _ (Below.refl _ _)).mono ?_; rintro e w2 ⟨rfl, rfl⟩)
    | (go_at_call 27; refine (HIn.out _ (Below.refl _ _)).mono ?_; rintro e w3 ⟨a, cc, rfl, hb3, d1, d2⟩; have d0 := HC0.out _ hb3)
    | (go_at_call 87; refine (HRe.out _ hb3).mono ?_; rintro e w4 ⟨⟨v4, rfl⟩, sv4⟩; obtain ⟨⟨old, y0⟩, yf, y1, y4, n1, n2, hcl⟩ := HAf.out _ sv4; clear sv4)
    | (go_at_call 88; refine hcl.mono ?_; rintro e w5 ⟨rfl, sv5⟩))
   go_ret
   rw [HM.out.1, HM.out.2]
   exact ⟨rfl, sv5⟩
  ·have HIn : Hid (∀ Y, Below W.heap.size W Y → Calls Tryz.prog 27 #[.pointer (some ⟨k.pm, 0, none⟩), .int .i64 (i : Nat)] Y fun e Z => ∃ (a : Option Addr) (n cc : Nat), e = .returned (.slice a n cc) ∧ (0 : Int) < n ∧ Below W.heap.size W Z) := fun Y hY => by
    refine (mIn_of k.pm k.b1 k.b2 st.S c (i : Nat) Y (h.under hY).mp hc).mono ?_
    rintro e Z ⟨L, a, n, cc, rfl, hI, ow, hZ⟩
    have hn : L.length = n := (own_pl ow).1
    have h0 : ¬ L.length = 0 := fun e => he ((emIn_iff hI).2 e)
    exact ⟨a, n, cc, rfl, by omega, hY.trans (hZ.mono hY.size)⟩
   have HM : Hid (decide (clearOk st (i : Nat)) = false ∧ clearM st (i : Nat) = st) := by
    have ho : ¬ clearOk st (i : Nat) := fun ho => he ho.2
    refine ⟨by simp [ho], ?_⟩
    unfold clearM
    rw [if_neg ho]
   have h3' : (stZ st.L (i : Nat) != 3) = false := by simp [h3]
   clear h kc he
   go_enter Tryz.func47, Tryz.ntmps47
   go_wp2_with (first
    | (go_at_call 24; refine (HSt.out _ (Below.refl _ _)).mono ?_; rintro e w2 ⟨rfl, rfl⟩)
    | (go_at_call 27; refine (HIn.out _ (Below.refl _ _)).mono ?_; rintro e w3 ⟨a, n, cc, rfl, hn0, hb3⟩))
   go_ret
   rw [HM.out.1, HM.out.2]
   exact ⟨rfl, (Sv.start H.out).under hb3⟩
 ·have h3' : (stZ st.L z != 3) = true := by simpa using h3
  have HM : Hid (decide (clearOk st z) = false ∧ clearM st z = st) := by
   have ho : ¬ clearOk st z := fun ho => h3 ho.1
   refine ⟨by simp [ho], ?_⟩
   unfold clearM
   rw [if_neg ho]
  generalize stZ st.L z = S at h3' HSt
  clear h h3
  go_enter Tryz.func47, Tryz.ntmps47
  go_wp2_with (go_at_call 24; refine (HSt.out _ (Below.refl _ _)).mono ?_; rintro e w2 ⟨rfl, rfl⟩)
  go_ret
  rw [HM.out.1, HM.out.2]
  exact ⟨rfl, Sv.start H.out⟩
end
end Go.Proofs.YtncnkpnfmbgifaaGreat
