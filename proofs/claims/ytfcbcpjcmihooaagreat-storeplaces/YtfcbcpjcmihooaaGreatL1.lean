/- Texts of this seat, one behind the other: StPl. -/
import Derived.Test.YtfcbcpjcmihooaaGreatK21
/- Where blocks are: what holds of the zones of a store that was made new, whatever is put. -/
namespace Go.Proofs.YtfcbcpjcmihooaaGreat
open Go.RowKit
set_option linter.unusedVariables false
set_option maxRecDepth 4000
/-- A free zone has nothing, any other one of the log has something; one at most is open; each place is behind a record, in a zone that is not free. -/
structure Inv3 (st : St) : Prop where
  i2 : Inv2 st
  fr : ∀ z : Nat, 2 ≤ z → z < st.L.length → (st.L.getD z 0 = 1 ∧ (atZ st.zs z).1 = [] ∧ st.la.getD z 0 = 0) ∨ ((st.L.getD z 0 = 2 ∨ st.L.getD z 0 = 3) ∧ (atZ st.zs z).1 ≠ [] ∧ st.la.getD z 0 ≠ 0)
  one : cntZ st.L 2 ≤ 1
  up : ∀ x ∈ st.S, 1 ≤ x.2.2
  ll : st.la.length = st.zs.length
/-- What opening a zone makes of the states. -/
structure OpZ (L L' : List Int) (i : Nat) : Prop where
  len : L'.length = L.length
  at_i : L'.getD i 0 = 2
  was : L.getD i 0 = 1 ∨ L.getD i 0 = 2
  oth : ∀ x, x ≠ i → L'.getD x 0 = L.getD x 0 ∨ (L.getD x 0 = 2 ∧ L'.getD x 0 = 3)
  one : cntZ L' 2 ≤ 1
theorem cnt_nil {L : List Int} {a : Int} (h : listZ L a = []) : cntZ L a = 0 := by unfold cntZ; rw [h]; rfl
theorem cur_opn {L : List Int} (h : curB L = true) (h1 : cntZ L 2 ≤ 1) : ∃ i : Nat, curA L = i ∧ i < L.length ∧ OpZ L (curL L) i ∧ (∀ x, x ≠ i → (curL L).getD x 0 = L.getD x 0) := by
  obtain ⟨i, hA, hi, h2, hl⟩ := cur_in h
  refine ⟨i, hA, hi, ?_⟩
  unfold curL curB curA at *
  cases hc : listZ L 2 with
  | cons z r =>
    rw [hc] at hA h2 h
    simp only at hA h2 h ⊢
    exact ⟨⟨rfl, h2, .inr h2, fun x _ => .inl rfl, h1⟩, fun _ _ => trivial⟩
  | nil =>
    rw [hc] at hA h2 h
    simp only at hA h2 h ⊢
    simp only [takeB, decide_eq_true_eq] at h
    have hi' : i = firstN L 1 := by simp only [takeI, if_pos h] at hA; omega
    have f1 := first_at h
    have g2 := cnt_turn (L := L) (z := firstN L 1) (c := 1) (b := 2) 2 h f1
    have e0 := cnt_nil hc
    simp at g2
    have hT : takeZ L = L.set (firstN L 1) 2 := by simp only [takeZ, if_pos h]
    have hx : ∀ x, x ≠ i → (takeZ L).getD x 0 = L.getD x 0 := fun x hx => by rw [hT, getD_set _ _ _ _ h, if_neg (by omega)]
    refine ⟨⟨takeZ_length L, h2, .inl (by rw [hi']; exact f1), fun x hx' => .inl (hx x hx'), ?_⟩, hx⟩
    rw [hT]
    omega
/-- The open zone is filled: nothing else turns; none is open then. -/
theorem fill_opn {L : List Int} {i : Nat} (hi : i < L.length) (h2 : L.getD i 0 = 2) (h1 : cntZ L 2 ≤ 1) : (turnZ L (i : Nat) 2 3).length = L.length ∧ (turnZ L (i : Nat) 2 3).getD i 0 = 3 ∧ (∀ x, x ≠ i → (turnZ L (i : Nat) 2 3).getD x 0 = L.getD x 0) ∧ cntZ (turnZ L (i : Nat) 2 3) 2 = 0 := by
  have e : turnZ L (i : Nat) 2 3 = L.set i 3 := by
    unfold turnZ
    rw [stZ_nat, if_pos h2]
    simp
  have g2 := cnt_turn (L := L) (z := i) (c := 2) (b := 3) 2 hi h2
  simp at g2
  refine ⟨turnZ_length _ _ _ _, ?_, fun x hx => ?_, ?_⟩
  · rw [e, getD_set _ _ _ _ hi, if_pos rfl]
  · rw [e, getD_set _ _ _ _ hi, if_neg hx]
  · rw [e]; omega
/-- What opening leaves, whether there is one or not. -/
structure OpW (L L' : List Int) : Prop where
  len : L'.length = L.length
  oth : ∀ x, L'.getD x 0 = L.getD x 0 ∨ (L.getD x 0 = 2 ∧ L'.getD x 0 = 3)
  one : cntZ L' 2 ≤ 1
theorem open_opn (s : Sh) (zs : List Zn) (k : Int) : ∀ (m : Nat) (L : List Int), muZ L = m → cntZ L 2 ≤ 1 → (∀ x : Nat, L.getD x 0 = 1 → k ≤ roomZ s zs x) →
    ((openZ s zs k L).2.1 = true ∧ ∃ i : Nat, (openZ s zs k L).1 = i ∧ i < L.length ∧ OpZ L (openZ s zs k L).2.2 i ∧ k ≤ roomZ s zs i) ∨ ((openZ s zs k L).2.1 = false ∧ OpW L (openZ s zs k L).2.2) := by
  intro m
  induction m with
  | zero =>
    intro L hm h1 hf
    have hn : curB L = false := by
      cases hb : curB L with
      | false => rfl
      | true => have := cur_mu hb; omega
    rw [openZ_done (by rw [hn]; simp), hn]
    refine .inr ⟨rfl, ?_⟩
    have : curL L = L := by
      unfold curL curB at *
      cases hc : listZ L 2 with
      | cons z r => rfl
      | nil =>
        rw [hc] at hn
        simp only [takeB, decide_eq_false_iff_not] at hn
        simp only [takeZ, if_neg hn]
    rw [this]
    exact ⟨rfl, fun x => .inl rfl, h1⟩
  | succ m ih =>
    intro L hm h1 hf
    cases hb : curB L with
    | false =>
      rw [openZ_done (by rw [hb]; simp), hb]
      refine .inr ⟨rfl, ?_⟩
      have : curL L = L := by
        unfold curL curB at *
        cases hc : listZ L 2 with
        | cons z r => rfl
        | nil =>
          rw [hc] at hb
          simp only [takeB, decide_eq_false_iff_not] at hb
          simp only [takeZ, if_neg hb]
      rw [this]
      exact ⟨rfl, fun x => .inl rfl, h1⟩
    | true =>
      obtain ⟨i, hA, hi, hop, hx⟩ := cur_opn hb h1
      by_cases hr : roomZ s zs (curA L) < k
      · have hmu := cur_mu hb
        rw [← openZ_more hb hr]
        have hiL : i < (curL L).length := by rw [hop.len]; exact hi
        obtain ⟨f1, f2, f3, f4⟩ := fill_opn hiL hop.at_i hop.one
        rw [hA] at hmu hr ⊢
        have hw2 : L.getD i 0 = 2 := by
          rcases hop.was with h | h
          · have := hf i h; omega
          · exact h
        have hsame : ∀ x, (turnZ (curL L) (i : Nat) 2 3).getD x 0 = L.getD x 0 ∨ (L.getD x 0 = 2 ∧ (turnZ (curL L) (i : Nat) 2 3).getD x 0 = 3) := fun x => by
          by_cases hxi : x = i
          · subst hxi; exact .inr ⟨hw2, f2⟩
          · exact .inl ((f3 x hxi).trans (hx x hxi))
        rcases ih (turnZ (curL L) (i : Nat) 2 3) (by omega) (by omega) (fun x hx1 => hf x (by rcases hsame x with h | h; rw [← h]; exact hx1; rw [h.2] at hx1; omega)) with ⟨g1, j, g2, g3, g4, g5⟩ | ⟨g1, g4⟩
        · refine .inl ⟨g1, j, g2, by rw [f1, hop.len] at g3; exact g3, ⟨by rw [g4.len, f1, hop.len], g4.at_i, ?_, fun x hxj => ?_, g4.one⟩, g5⟩
          · rcases hsame j with h | h
            · rw [← h]; exact g4.was
            · exact .inr h.1
          · rcases g4.oth x hxj with h | ⟨h, h'⟩
            · rcases hsame x with e | ⟨e, e'⟩
              · exact .inl (h.trans e)
              · exact .inr ⟨e, h.trans e'⟩
            · rcases hsame x with e | ⟨e, e'⟩
              · exact .inr ⟨by rw [← e]; exact h, h'⟩
              · rw [e'] at h; omega
        · refine .inr ⟨g1, by rw [g4.len, f1, hop.len], fun x => ?_, g4.one⟩
          rcases g4.oth x with h | ⟨h, h'⟩
          · rcases hsame x with e | ⟨e, e'⟩
            · exact .inl (h.trans e)
            · exact .inr ⟨e, h.trans e'⟩
          · rcases hsame x with e | ⟨e, e'⟩
            · exact .inr ⟨by rw [← e]; exact h, h'⟩
            · rw [e'] at h; omega
      · rw [openZ_done (by omega), hb]
        refine .inl ⟨rfl, i, hA, hi, hop, ?_⟩
        rw [hA] at hr
        omega
theorem app_other {s : Sh} {zs : List Zn} {z x : Nat} {D : List Int} (h : x ≠ z) : atZ (appZ s zs z D) x = atZ zs x := by
  unfold appZ
  split
  · split
    · rfl
    · unfold atZ
      simp only [Int.toNat_natCast]
      split
      · simp only [List.getD_eq_getElem?_getD, List.getElem?_set_ne (show z ≠ x by omega)]
      · rfl
  · rfl
theorem wr_other {st : St} {z x : Nat} {l : List Pt} (h : x ≠ z) : ∀ j, j ≤ l.length → atZ (wrY st z l j).1 x = atZ st.zs x := by
  intro j
  induction j with
  | zero => intro _; rw [wrY_zero]; exact app_other h
  | succ j ih =>
    intro hj
    obtain ⟨p, hp⟩ : ∃ p, l[j]? = some p := ⟨l[j], by simp [show j < l.length by omega]⟩
    rw [wrY_next hp]
    unfold oneP
    split
    · exact ih (by omega)
    · rw [show atZ (appZ st.s (wrY st z l j).1 z p.d) x = atZ (wrY st z l j).1 x from app_other h]
      exact ih (by omega)
theorem wr_up {st : St} {z : Nat} {l : List Pt} (hi : Inv st) (hz : z < st.zs.length) (hl0 : 0 < l.length) (hl1 : (l.length : Int) ≤ roomI st.s.b) (ho : okP st.s l) (hf : ∀ p ∈ l, p.Fits) (hr : ((datN l : Nat) : Int) + 1 ≤ roomZ st.s st.zs z) {P : Int → Prop} (hS : ∀ x ∈ st.S, 1 ≤ x.2.2 ∧ P x.2.1) (hP : P z) :
    ∀ j, j ≤ l.length → ∀ x ∈ (wrY st z l j).2, 1 ≤ x.2.2 ∧ P x.2.1 := by
  intro j
  induction j with
  | zero => intro _ x hx; rw [wrY_zero] at hx; exact hS x hx
  | succ j ih =>
    intro hj x hx
    obtain ⟨p, hp⟩ : ∃ p, l[j]? = some p := ⟨l[j], by simp [show j < l.length by omega]⟩
    obtain ⟨w1, w2, w3, w4, w5⟩ := wr_mem hi hz hl0 hl1 ho hf hr j (by omega)
    rw [wrY_next hp] at hx
    unfold oneP at hx
    split at hx
    · exact ih (by omega) x (mem_dropS.1 hx).1
    · rename_i hpx
      rcases (mem_putS w2.1).1 hx with rfl | ⟨h', _⟩
      · have hd : (p.d.length : Int) = st.s.b := (ho p (List.mem_of_getElem? hp)).resolve_left hpx
        have hdn : datN (l.take j) + 1 ≤ datN l := by
          have e1 : l.take (j + 1) = l.take j ++ [p] := take_snoc hp
          have e2 : datN (l.take (j + 1)) = datN (l.take j) + 1 := by rw [e1]; unfold datN; simp [hpx]
          have e3 : datN (l.take (j + 1)) ≤ datN l := by unfold datN; exact ((List.take_sublist (j + 1) l).filter _).length_le
          omega
        have hnf : ¬ appFull st.s (wrY st z l j).1 z := by unfold appFull roomZ at *; omega
        have hok : appOk st.s (wrY st z l j).1 z p.d := ⟨by omega, by omega, hd⟩
        show 1 ≤ (appA st.s (wrY st z l j).1 z p.d).2 ∧ P (appA st.s (wrY st z l j).1 z p.d).1
        unfold appA
        rw [if_pos hok, if_neg hnf]
        refine ⟨?_, hP⟩
        show 1 ≤ (((atZ (wrY st z l j).1 z).1.length : Nat) : Int)
        omega
      · exact ih (by omega) x h'
theorem fullL_cases {s : Sh} {zs : List Zn} {L : List Int} {i : Nat} (hi : i < L.length) (h2 : L.getD i 0 = 2) (h1 : cntZ L 2 ≤ 1) : (fullL s zs L (i : Nat)).length = L.length ∧ ((fullL s zs L (i : Nat)).getD i 0 = 2 ∨ (fullL s zs L (i : Nat)).getD i 0 = 3) ∧ (∀ x, x ≠ i → (fullL s zs L (i : Nat)).getD x 0 = L.getD x 0) ∧ cntZ (fullL s zs L (i : Nat)) 2 ≤ 1 := by
  unfold fullL
  split
  · obtain ⟨f1, f2, f3, f4⟩ := fill_opn hi h2 h1
    exact ⟨f1, .inr f2, f3, by omega⟩
  · exact ⟨rfl, .inl h2, fun x _ => rfl, h1⟩
theorem put_inv3 : ∀ (f : Nat) (st : St) (l : List Pt), Inv3 st → okP st.s l → (∀ p ∈ l, p.Fits) → l.length ≤ f → 0 ≤ st.q → st.q + l.length < 1000000 → Inv3 (putF f st l).2 ∧ 0 ≤ (putF f st l).2.q ∧ (putF f st l).2.q ≤ st.q + l.length
  | 0, st, l, hi, ho, hf, hl, hq, hq2 => by unfold putF; exact ⟨hi, hq, by show st.q ≤ _; omega⟩
  | f + 1, st, [], hi, ho, hf, hl, hq, hq2 => by unfold putF; exact ⟨hi, hq, by simp⟩
  | f + 1, st, p :: l, hi, ho, hf, hl, hq, hq2 => by
    have hr := hi.i2.inv.wf.right
    have hfree : ∀ x : Nat, st.L.getD x 0 = 1 → needP p ≤ roomZ st.s st.zs x := fun x hx => by
      have hx2 : 2 ≤ x := by
        rcases x with _ | _ | x
        · rw [hi.i2.k0] at hx; omega
        · rw [hi.i2.k1] at hx; omega
        · omega
      have hxl : x < st.L.length := by
        rcases Nat.lt_or_ge x st.L.length with h | h
        · exact h
        · have : st.L.getD x 0 = 0 := by simp [List.getD, List.getElem?_eq_none h]
          omega
      have : needP p ≤ 2 := by unfold needP; split <;> omega
      have h8 := hr.2.2.1
      rcases hi.fr x hx2 hxl with ⟨_, h, _⟩ | ⟨h, _⟩
      · unfold roomZ; rw [h]; simp; omega
      · omega
    have hlen := openZ_length st.s st.zs (needP p) _ st.L rfl
    rw [putFstep]
    rcases open_opn st.s st.zs (needP p) _ st.L rfl hi.one hfree with ⟨hb, i, h1, h2, hop, h4⟩ | ⟨hb, hop⟩
    · rw [if_pos hb]
      have q0 := open_keep st.s st.zs (needP p) _ st.L rfl hi.i2.k0
      have q1 := open_keep st.s st.zs (needP p) _ st.L rfl hi.i2.k1
      have h3 := hop.at_i
      have hi2 : 2 ≤ i := by
        rcases i with _ | _ | i
        · rw [q0] at h3; omega
        · rw [q1] at h3; omega
        · omega
      rw [h1]
      obtain ⟨n, hn⟩ : ∃ n, n = frontN st i (p :: l) := ⟨_, rfl⟩
      rw [← hn]
      have hpos : 0 < n := by rw [hn]; exact front_pos hr h4
      have hle := frN_le (p :: l) (roomI st.s.b).toNat (roomZ st.s st.zs i - 1)
      have hdat := frN_dat (p :: l) (roomI st.s.b).toNat (roomZ st.s st.zs i - 1)
      rw [show frN (p :: l) (roomI st.s.b).toNat (roomZ st.s st.zs i - 1) = n from hn.symm] at hle hdat
      have hroom : 1 ≤ roomZ st.s st.zs i := by have : 1 ≤ needP p := by unfold needP; split <;> omega
                                                omega
      have hR := roomI_nat hr
      obtain ⟨L', hL'⟩ : ∃ L', L' = (openZ st.s st.zs (needP p) st.L).2.2 := ⟨_, rfl⟩
      rw [← hL'] at hop q0 q1 h3 hlen ⊢
      have hi1 : Inv { st with L := L' } := ⟨hi.i2.inv.wf, hi.i2.inv.plc, by show L'.length = _; rw [hlen]; exact hi.i2.inv.len⟩
      have hlt : ((p :: l).take n).length = n := by rw [List.length_take]; omega
      have a1 : i < st.zs.length := by rw [← hi.i2.inv.len]; exact h2
      have a2 : okP st.s ((p :: l).take n) := fun x hx => ho x (List.mem_of_mem_take hx)
      have a3 : ∀ x ∈ (p :: l).take n, x.Fits := fun x hx => hf x (List.mem_of_mem_take hx)
      have a4 : (((p :: l).take n).length : Int) ≤ roomI st.s.b := by omega
      have a5 : ((datN ((p :: l).take n) : Nat) : Int) + 1 ≤ roomZ st.s st.zs i := by omega
      have w1 := (write_inv (z := i) (l := (p :: l).take n) hi1 a1 (by omega) a4 a2 a3 a5).1
      have w3 := wr_hi (z := i) (l := (p :: l).take n) hi1 a1 (by omega) a4 a2 a3 a5 hi2 hi.i2.hi _ (Nat.le_refl _)
      have w4 := wr_up (P := fun _ => True) (z := i) (l := (p :: l).take n) hi1 a1 (by omega) a4 a2 a3 a5 (fun x hx => ⟨hi.up x hx, trivial⟩) trivial _ (Nat.le_refl _)
      obtain ⟨_, _, _, w5, w6⟩ := wr_mem (z := i) (l := (p :: l).take n) hi1 a1 (by omega) a4 a2 a3 a5 _ (Nat.le_refl _)
      have hiL : i < L'.length := by rw [hop.len]; exact h2
      obtain ⟨f1, f2, f3, f4⟩ := fullL_cases (s := st.s) (zs := (wrY { st with L := L' } i ((p :: l).take n) ((p :: l).take n).length).1) hiL h3 hop.one
      have hinc : incU st.q = st.q + 1 := by unfold incU; simp only [List.length_cons] at hq2; omega
      have hst : Inv3 (writeM { st with L := L' } i ((p :: l).take n)) := by
        refine ⟨⟨w1, w3, ?_, ?_, hi.i2.o⟩, ?_, f4, fun x hx => (w4 x hx).1, ?_⟩
        · show (fullL _ _ L' (i : Nat)).getD 0 0 = 4
          rw [f3 0 (by omega)]; exact q0
        · show (fullL _ _ L' (i : Nat)).getD 1 0 = 4
          rw [f3 1 (by omega)]; exact q1
        · intro z hz hzl
          have hzl' : z < st.L.length := by have : z < (fullL st.s (wrY { st with L := L' } i ((p :: l).take n) ((p :: l).take n).length).1 L' (i : Nat)).length := hzl; rw [f1, hop.len] at this; exact this
          show ((fullL st.s (wrY { st with L := L' } i ((p :: l).take n) ((p :: l).take n).length).1 L' (i : Nat)).getD z 0 = 1 ∧ (atZ (wrY { st with L := L' } i ((p :: l).take n) ((p :: l).take n).length).1 z).1 = [] ∧ (st.la.set ((i : Nat) : Int).toNat (incU st.q)).getD z 0 = 0) ∨ (((fullL st.s (wrY { st with L := L' } i ((p :: l).take n) ((p :: l).take n).length).1 L' (i : Nat)).getD z 0 = 2 ∨ (fullL st.s (wrY { st with L := L' } i ((p :: l).take n) ((p :: l).take n).length).1 L' (i : Nat)).getD z 0 = 3) ∧ (atZ (wrY { st with L := L' } i ((p :: l).take n) ((p :: l).take n).length).1 z).1 ≠ [] ∧ (st.la.set ((i : Nat) : Int).toNat (incU st.q)).getD z 0 ≠ 0)
          rw [Int.toNat_natCast, getD_set _ _ _ _ (by rw [hi.ll]; exact a1)]
          by_cases hzi : z = i
          · subst hzi
            refine .inr ⟨f2, fun e => ?_, by rw [if_pos rfl, hinc]; omega⟩
            rw [e] at w5
            simp at w5
            try omega
          · rw [f3 z hzi, wr_other (z := i) hzi _ (Nat.le_refl _), if_neg hzi]
            show (L'.getD z 0 = 1 ∧ (atZ st.zs z).1 = [] ∧ st.la.getD z 0 = 0) ∨ ((L'.getD z 0 = 2 ∨ L'.getD z 0 = 3) ∧ (atZ st.zs z).1 ≠ [] ∧ st.la.getD z 0 ≠ 0)
            rcases hi.fr z hz hzl' with ⟨e1, e2, e3⟩ | ⟨e1, e2, e3⟩
            · rcases hop.oth z hzi with e | ⟨e, _⟩
              · exact .inl ⟨by rw [e]; exact e1, e2, e3⟩
              · omega
            · refine .inr ⟨?_, e2, e3⟩
              rcases hop.oth z hzi with e | ⟨_, e⟩
              · rw [e]; exact e1
              · exact .inr e
        · show (st.la.set _ _).length = (wrY _ _ _ _).1.length
          rw [List.length_set, w6]
          exact hi.ll
      have hdl : ((p :: l).drop n).length = (p :: l).length - n := List.length_drop
      have hqn : (writeM { st with L := L' } i ((p :: l).take n)).q = st.q + 1 := hinc
      obtain ⟨r1, r2, r3⟩ := put_inv3 f _ ((p :: l).drop n) hst (fun x hx => ho x (List.mem_of_mem_drop hx)) (fun x hx => hf x (List.mem_of_mem_drop hx)) (by rw [hdl]; simp only [List.length_cons] at hl ⊢; omega) (by rw [hqn]; omega) (by rw [hqn, hdl]; simp only [List.length_cons] at hq2 hle ⊢; omega)
      refine ⟨r1, r2, ?_⟩
      rw [hqn, hdl] at r3
      simp only [List.length_cons] at r3 hle ⊢
      omega
    · rw [if_neg (by rw [hb]; decide)]
      refine ⟨⟨⟨⟨hi.i2.inv.wf, hi.i2.inv.plc, by show (openZ st.s st.zs (needP p) st.L).2.2.length = _; rw [hlen]; exact hi.i2.inv.len⟩, hi.i2.hi, open_keep st.s st.zs (needP p) _ st.L rfl hi.i2.k0, open_keep st.s st.zs (needP p) _ st.L rfl hi.i2.k1, hi.i2.o⟩, ?_, hop.one, hi.up, hi.ll⟩, hq, by show st.q ≤ _; simp only [List.length_cons]; omega⟩
      intro z hz hzl
      have hzl' : z < st.L.length := by have : z < (openZ st.s st.zs (needP p) st.L).2.2.length := hzl; rw [hlen] at this; exact this
      show ((openZ st.s st.zs (needP p) st.L).2.2.getD z 0 = 1 ∧ (atZ st.zs z).1 = [] ∧ st.la.getD z 0 = 0) ∨ (((openZ st.s st.zs (needP p) st.L).2.2.getD z 0 = 2 ∨ (openZ st.s st.zs (needP p) st.L).2.2.getD z 0 = 3) ∧ (atZ st.zs z).1 ≠ [] ∧ st.la.getD z 0 ≠ 0)
      rcases hi.fr z hz hzl' with ⟨e1, e2, e3⟩ | ⟨e1, e2, e3⟩
      · rcases hop.oth z with e | ⟨e, _⟩
        · exact .inl ⟨by rw [e]; exact e1, e2, e3⟩
        · omega
      · refine .inr ⟨?_, e2, e3⟩
        rcases hop.oth z with e | ⟨_, e⟩
        · rw [e]; exact e1
        · exact .inr e
theorem newZ_one (n : Nat) {z : Nat} (h2 : 2 ≤ z) (hz : z < (newZ n).length) : (newZ n).getD z 0 = 1 := by
  unfold newZ at *
  obtain ⟨y, rfl⟩ : ∃ y, z = y + 2 := ⟨z - 2, by omega⟩
  simp only [List.length_cons, List.length_replicate] at hz
  simp [show y < n - 2 by omega]
theorem newZ_two (n : Nat) : cntZ (newZ n) 2 = 0 := by
  unfold cntZ
  cases hc : listZ (newZ n) 2 with
  | nil => rfl
  | cons z r =>
    have hz : z ∈ listZ (newZ n) 2 := by rw [hc]; simp
    obtain ⟨i, hi, h2, rfl⟩ := listTo_mem.1 hz
    rcases i with _ | _ | i
    · cases h2
    · cases h2
    · rw [newZ_one n (by omega) hi] at h2
      omega
theorem st0_inv3 {s : Sh} (h : RightS s) : Inv3 (st0 s) := by
  refine ⟨st0_inv2 h, fun z hz hzl => .inl ⟨newZ_one _ hz hzl, by rw [st0_at s (by omega)], ?_⟩, by show cntZ (newZ _) 2 ≤ 1; rw [newZ_two]; omega, (fun x hx => by cases hx), ?_⟩
  · show (List.replicate s.z.toNat (0 : Int)).getD z 0 = 0
    simp only [List.getD_eq_getElem?_getD, List.getElem?_replicate]
    split <;> rfl
  · have hw := (st0_inv h).wf.len
    have h6 := h.1
    show (List.replicate s.z.toNat (0 : Int)).length = (st0 s).zs.length
    rw [List.length_replicate]
    have : (st0 s).s = s := rfl
    rw [this] at hw
    omega
theorem place_ok {st : St} (h : Inv3 st) {x : Pl} (hx : x ∈ st.S) : ∃ m j : Nat, x.2.1 = m ∧ x.2.2 = j ∧ (st.L.getD m 0 = 2 ∨ st.L.getD m 0 = 3) ∧ 1 ≤ j ∧ j < (atZ st.zs m).1.length ∧ lastI st.la m ≠ 0 := by
  obtain ⟨E, hE⟩ := Option.isSome_iff_exists.1 (h.i2.inv.plc.2 x hx)
  obtain ⟨m, j, z, e, h1, h2⟩ := blkZ_some hE
  have e1 : x.2.1 = m := by rw [e]
  have e2 : x.2.2 = j := by rw [e]
  have hm := h.i2.hi x hx
  have hj := h.up x hx
  have a1 := (List.getElem?_eq_some_iff.1 h1).1
  have a2 := (List.getElem?_eq_some_iff.1 h2).1
  have hz := atZ_in h1
  have hl := h.i2.inv.len
  refine ⟨m, j, e1, e2, ?_⟩
  rcases h.fr m (by omega) (by omega) with ⟨_, c, _⟩ | ⟨c1, c2, c3⟩
  · rw [hz] at c
    rw [c] at a2
    simp at a2
  · refine ⟨c1, by omega, by rw [hz]; exact a2, ?_⟩
    unfold lastI
    rw [if_pos (by omega), Int.toNat_natCast]
    exact c3
def Sml (s : Sh) : Prop := s.z ≤ 12 ∧ s.zb ≤ 16
theorem nodup_le : ∀ (N : Nat) (l : List Nat), l.Nodup → (∀ x ∈ l, x < N) → l.length ≤ N
  | 0, l, _, h => by
    cases l with
    | nil => exact Nat.le_refl _
    | cons x r => have := h x (by simp); omega
  | N + 1, l, hn, h => by
    by_cases hm : N ∈ l
    · have := nodup_le N (l.erase N) (hn.erase N) (fun x hx => by
        have := hn.mem_erase_iff.1 hx
        have := h x this.2
        omega)
      rw [List.length_erase_of_mem hm] at this
      omega
    · have := nodup_le N l hn (fun x hx => by
        have := h x hx
        have : x ≠ N := fun e => hm (e ▸ hx)
        omega)
      omega
theorem size_S {st : St} (h : Inv st) (hz : Sml st.s) : st.S.length ≤ 192 := by
  have hw := h.wf.len
  have at' : ∀ x ∈ st.S, ∃ i j : Nat, x.2 = ((i : Int), (j : Int)) ∧ i < 12 ∧ j < 16 := fun x hx => by
    obtain ⟨E, hE⟩ := Option.isSome_iff_exists.1 (h.plc.2 x hx)
    obtain ⟨i, j, z, e, h1, h2⟩ := blkZ_some hE
    have a1 := (List.getElem?_eq_some_iff.1 h1).1
    have a2 := (List.getElem?_eq_some_iff.1 h2).1
    have a3 := (h.wf.zone z (List.mem_of_getElem? h1)).1
    have := hz.1
    have := hz.2
    exact ⟨i, j, e, by omega, by omega⟩
  have hn : (st.S.map (fun x => x.2.1.toNat * 16 + x.2.2.toNat)).Nodup := by
    rw [List.Nodup, List.pairwise_map]
    refine h.plc.1.apart.imp_of_mem (fun {a b} ha hb hne e => hne ?_)
    obtain ⟨i, j, ea, hi, hj⟩ := at' a ha
    obtain ⟨i', j', eb, hi', hj'⟩ := at' b hb
    rw [ea, eb] at e ⊢
    simp only [Int.toNat_natCast] at e
    have : i = i' ∧ j = j' := by omega
    rw [this.1, this.2]
  have := nodup_le 192 _ hn (fun y hy => by
    obtain ⟨x, hx, rfl⟩ := List.mem_map.1 hy
    obtain ⟨i, j, e, hi, hj⟩ := at' x hx
    rw [e]
    simp only [Int.toNat_natCast]
    omega)
  simpa using this
theorem PlIn.at {w : World} {a : Option Addr} {n : Nat} {L : List Pl} (h : PlIn w a n L) {i : Nat} (hi : i < n) : ∃ (x : Pl) (g : Nat), L[i]? = some x ∧ a = some ⟨g, 0, none⟩ ∧ w.cell? ⟨g, i * 4, none⟩ = some (.int .u32 x.1.1) ∧ w.cell? ⟨g, i * 4 + 1, none⟩ = some (.int .u64 x.1.2) ∧ w.cell? ⟨g, i * 4 + 2, none⟩ = some (.int .i64 x.2.1) ∧ w.cell? ⟨g, i * 4 + 3, none⟩ = some (.int .i64 x.2.2) := by
  obtain ⟨g, rfl, hc⟩ := h.2.resolve_left (by omega)
  have hl := h.1
  obtain ⟨x, hx⟩ : ∃ x, L[i]? = some x := ⟨L[i], by simp [show i < L.length by omega]⟩
  exact ⟨x, g, hx, rfl, hc i x hx⟩
end Go.Proofs.YtfcbcpjcmihooaaGreat
