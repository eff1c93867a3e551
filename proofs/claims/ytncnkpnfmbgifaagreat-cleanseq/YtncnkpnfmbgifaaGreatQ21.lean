/- Texts of this seat, one behind the other: StIv, StLw, StLx, StPl. -/
import Derived.Test.YtncnkpnfmbgifaaGreatP25
import Derived.Test.YtncnkpnfmbgifaaGreatQ20
import Derived.Test.YtncnkpnfmbgifaaGreatP23
/- What holds of a store from the beginning on stays, whatever is called. -/
namespace Go.Proofs.YtncnkpnfmbgifaaGreat
open Go.RowKit
set_option linter.unusedVariables false
set_option maxRecDepth 4000
theorem turn_keep {L : List Int} {z a b : Int} {i : Nat} (h : L.getD i 0 = 4) (ha : a ≠ 4) (h0 : a ≠ 0) : (turnZ L z a b).getD i 0 = 4 := by
  unfold turnZ
  split
  · rename_i hz
    unfold stZ at hz
    split at hz
    · by_cases hi : z.toNat < L.length
      · rw [getD_set _ _ _ _ hi]
        split
        · rename_i e
          rw [e] at h; omega
        · exact h
      · rw [List.set_eq_of_length_le (by omega)]
        exact h
    · omega
  · exact h
theorem take_keep {L : List Int} {i : Nat} (h : L.getD i 0 = 4) : (takeZ L).getD i 0 = 4 := by
  unfold takeZ
  split
  · rename_i hl
    rw [getD_set _ _ _ _ hl]
    split
    · rename_i e
      have := first_at hl
      rw [e] at h
      omega
    · exact h
  · exact h
theorem cur_keep {L : List Int} {i : Nat} (h : L.getD i 0 = 4) : (curL L).getD i 0 = 4 := by
  unfold curL
  split
  · exact h
  · exact take_keep h
theorem open_keep (s : Sh) (zs : List Zn) (k : Int) {i : Nat} : ∀ (m : Nat) (L : List Int), muZ L = m → L.getD i 0 = 4 → (openZ s zs k L).2.2.getD i 0 = 4 := by
  intro m
  induction m with
  | zero =>
    intro L hm h
    rw [openZ_done (fun h => by have := cur_mu h.1; omega)]
    exact cur_keep h
  | succ m ih =>
    intro L hm h
    by_cases hn : curB L = true ∧ roomZ s zs (curA L) < k
    · have hc := cur_mu hn.1
      rw [← openZ_more hn.1 hn.2]
      exact ih _ (by omega) (turn_keep (cur_keep h) (by decide) (by decide))
    · rw [openZ_done hn]
      exact cur_keep h
theorem blk_flush (zs : List Zn) (a : Pr) : blkZ (flushZ zs) a = blkZ zs a := by
  unfold blkZ flushZ
  split
  · simp only [List.getElem?_mapIdx]
    cases zs[a.1.toNat]? <;> rfl
  · rfl
theorem blk_set {zs : List Zn} {i : Nat} {z : Zn} {a : Pr} (h : a.1 ≠ i) : blkZ (zs.set i z) a = blkZ zs a := by
  unfold blkZ
  split
  · rename_i h0
    rw [List.getElem?_set_ne (by omega)]
  · rfl
theorem wr_hi {st : St} {z : Nat} {l : List Pt} (hi : Inv st) (hz : z < st.zs.length) (hl0 : 0 < l.length) (hl1 : (l.length : Int) ≤ roomI st.s.b) (ho : okP st.s l) (hf : ∀ p ∈ l, p.Fits) (hr : ((datN l : Nat) : Int) + 1 ≤ roomZ st.s st.zs z) (h2 : 2 ≤ z) (hS : ∀ x ∈ st.S, 2 ≤ x.2.1) :
    ∀ j, j ≤ l.length → ∀ x ∈ (wrY st z l j).2, 2 ≤ x.2.1 := by
  intro j
  induction j with
  | zero => intro _ x hx; rw [wrY_zero] at hx; exact hS x hx
  | succ j ih =>
    intro hj x hx
    obtain ⟨p, hp⟩ : ∃ p, l[j]? = some p := ⟨l[j], by simp [show j < l.length by omega]⟩
    obtain ⟨w1, w2, w3, w4, w5⟩ := wr_mem hi hz hl0 hl1 ho hf hr j (by omega)
    rw [wrY_next hp] at hx
    unfold oneP at hx
    split at hx
    · exact ih (by omega) x (mem_dropS.1 hx).1
    · rename_i hpx
      rcases (mem_putS w2.1).1 hx with rfl | ⟨h', _⟩
      · have hd : (p.d.length : Int) = st.s.b := (ho p (List.mem_of_getElem? hp)).resolve_left hpx
        have hdn : datN (l.take j) + 1 ≤ datN l := by
          have e1 : l.take (j + 1) = l.take j ++ [p] := take_snoc hp
          have e2 : datN (l.take (j + 1)) = datN (l.take j) + 1 := by rw [e1]; unfold datN; simp [hpx]
          have e3 : datN (l.take (j + 1)) ≤ datN l := by unfold datN; exact ((List.take_sublist (j + 1) l).filter _).length_le
          omega
        have hnf : ¬ appFull st.s (wrY st z l j).1 z := by unfold appFull roomZ at *; omega
        have hok : appOk st.s (wrY st z l j).1 z p.d := ⟨by omega, by omega, hd⟩
        show 2 ≤ (appA st.s (wrY st z l j).1 z p.d).1
        unfold appA
        rw [if_pos hok, if_neg hnf]
        show 2 ≤ (z : Int)
        omega
      · exact ih (by omega) x h'
theorem put_inv2 : ∀ (f : Nat) (st : St) (l : List Pt), Inv2 st → okP st.s l → (∀ p ∈ l, p.Fits) → l.length ≤ f → Inv2 (putF f st l).2
  | 0, st, l, hi, ho, hf, hl => by unfold putF; exact hi
  | f + 1, st, [], hi, ho, hf, hl => by unfold putF; exact hi
  | f + 1, st, p :: l, hi, ho, hf, hl => by
    have hr := hi.inv.wf.right
    rw [putFstep]
    by_cases hb : (openZ st.s st.zs (needP p) st.L).2.1 = true
    · rw [if_pos hb]
      obtain ⟨i, h1, h2, h3, h4⟩ := openZ_in st.s st.zs (needP p) _ st.L rfl hb
      have hlen := openZ_length st.s st.zs (needP p) _ st.L rfl
      have q0 := open_keep st.s st.zs (needP p) _ st.L rfl hi.k0
      have q1 := open_keep st.s st.zs (needP p) _ st.L rfl hi.k1
      have hi2 : 2 ≤ i := by
        rcases i with _ | _ | i
        · rw [q0] at h3; omega
        · rw [q1] at h3; omega
        · omega
      rw [h1]
      obtain ⟨n, hn⟩ : ∃ n, n = frontN st i (p :: l) := ⟨_, rfl⟩
      rw [← hn]
      have hpos : 0 < n := by rw [hn]; exact front_pos hr h4
      have hle := frN_le (p :: l) (roomI st.s.b).toNat (roomZ st.s st.zs i - 1)
      have hdat := frN_dat (p :: l) (roomI st.s.b).toNat (roomZ st.s st.zs i - 1)
      rw [show frN (p :: l) (roomI st.s.b).toNat (roomZ st.s st.zs i - 1) = n from hn.symm] at hle hdat
      have hroom : 1 ≤ roomZ st.s st.zs i := by have : 1 ≤ needP p := by unfold needP; split <;> omega
                                                omega
      have hR := roomI_nat hr
      have hi1 : Inv { st with L := (openZ st.s st.zs (needP p) st.L).2.2 } := ⟨hi.inv.wf, hi.inv.plc, by show (openZ st.s st.zs (needP p) st.L).2.2.length = _; rw [hlen]; exact hi.inv.len⟩
      have hlt : ((p :: l).take n).length = n := by rw [List.length_take]; omega
      have a1 : i < st.zs.length := by rw [← hi.inv.len]; exact h2
      have a2 : okP st.s ((p :: l).take n) := fun x hx => ho x (List.mem_of_mem_take hx)
      have a3 : ∀ x ∈ (p :: l).take n, x.Fits := fun x hx => hf x (List.mem_of_mem_take hx)
      obtain ⟨w1, w2⟩ := write_inv (z := i) (l := (p :: l).take n) hi1 a1 (by omega) (by show (((p :: l).take n).length : Int) ≤ roomI st.s.b; omega) a2 a3 (by show _ ≤ roomZ st.s st.zs i; omega)
      have w3 := wr_hi (z := i) (l := (p :: l).take n) hi1 a1 (by omega) (by show (((p :: l).take n).length : Int) ≤ roomI st.s.b; omega) a2 a3 (by show _ ≤ roomZ st.s st.zs i; omega) hi2 hi.hi _ (Nat.le_refl _)
      refine put_inv2 f _ _ ⟨w1, w3, ?_, ?_, hi.o⟩ (fun x hx => ho x (List.mem_of_mem_drop hx)) (fun x hx => hf x (List.mem_of_mem_drop hx)) (by rw [List.length_drop]; simp only [List.length_cons] at hl ⊢; omega)
      · show (fullL _ _ _ _).getD 0 0 = 4
        unfold fullL
        split
        · exact turn_keep q0 (by decide) (by decide)
        · exact q0
      · show (fullL _ _ _ _).getD 1 0 = 4
        unfold fullL
        split
        · exact turn_keep q1 (by decide) (by decide)
        · exact q1
    · rw [if_neg hb]
      have hlen := openZ_length st.s st.zs (needP p) _ st.L rfl
      exact ⟨⟨hi.inv.wf, hi.inv.plc, by show (openZ st.s st.zs (needP p) st.L).2.2.length = _; rw [hlen]; exact hi.inv.len⟩, hi.hi, open_keep st.s st.zs (needP p) _ st.L rfl hi.k0, open_keep st.s st.zs (needP p) _ st.L rfl hi.k1, hi.o⟩
theorem Plc.eq {zs zs' : List Zn} {S : List Pl} (h : Plc zs S) (he : ∀ x ∈ S, blkZ zs' x.2 = blkZ zs x.2) : Plc zs' S := ⟨h.1, fun x hx => by rw [he x hx]; exact h.2 x hx⟩
theorem do_inv2 {st : St} (h : Inv2 st) (o : Od) (hf : ∀ p ∈ o.l, p.Fits) : Inv2 (doM st o) := by
  have hl := h.inv.len
  unfold doM
  split
  · refine ⟨⟨h.inv.wf.flush, h.inv.plc.eq (fun x hx => blk_flush _ _), ?_⟩, h.hi, h.k0, h.k1, h.o⟩
    show st.L.length = (flushZ st.zs).length
    unfold flushZ
    simpa using hl
  · split
    · have hw := swf_svZ h.inv.wf (1 - st.o) st.q st.S
      refine ⟨⟨hw, ?_, ?_⟩, h.hi, h.k0, h.k1, ?_⟩
      · refine h.inv.plc.eq (fun x hx => ?_)
        show blkZ (svZ st.s st.zs (1 - st.o) st.q st.S) x.2 = _
        unfold svZ
        split
        · unfold putZ
          rw [blk_flush, blk_set (by have := h.hi x hx; have := h.o; omega)]
        · rfl
      · show st.L.length = (svZ st.s st.zs (1 - st.o) st.q st.S).length
        have e1 := hw.len
        have e2 := h.inv.wf.len
        omega
      · have e := h.o
        unfold markM
        simp only
        split
        · omega
        · exact e
    · split
      · unfold clearM
        split
        · rename_i hc
          obtain ⟨i, hz, hi⟩ := st3_in hc.1
          refine ⟨⟨h.inv.wf.reset _, ?_, ?_⟩, h.hi, turn_keep h.k0 (by decide) (by decide), turn_keep h.k1 (by decide) (by decide), h.o⟩
          · refine h.inv.plc.eq (fun x hx => ?_)
            show blkZ (resetZ st.zs o.z) x.2 = _
            rw [hz, resetZ_in, blk_set (by have := hc.2 x hx; rw [hz] at this; exact this)]
          · show (turnZ st.L o.z 3 1).length = (resetZ st.zs o.z).length
            rw [turnZ_length, hz, resetZ_in]
            simpa using hl
        · exact h
      · unfold putM
        split
        · rename_i hk
          refine put_inv2 _ _ _ h hk (fun p hp => ?_) (Nat.le_refl _)
          obtain ⟨q, hq, rfl⟩ := List.mem_map.1 hp
          exact blkP_fits (hf q hq)
        · exact h
theorem st0_inv2 {s : Sh} (h : RightS s) : Inv2 (st0 s) := by
  exact ⟨st0_inv h, (fun x hx => by cases hx), rfl, rfl, .inl rfl⟩
end Go.Proofs.YtncnkpnfmbgifaaGreat

/- Does and Same as the statements call them; both stores made new; Get of both. -/
namespace Go.Proofs.YtncnkpnfmbgifaaGreat
open Go.RowKit
set_option linter.unusedVariables false
set_option maxRecDepth 4000
theorem truth_of (b : Bool) (w : World) : Calls Tryz.prog 31 #[.bool b] w fun e w' => e = .returned (.int .i64 (trB b)) ∧ w' = w := by
 cases b
 all_goals (
  go_enter Tryz.func31, Tryz.ntmps31
  go_wp2
  go_ret
  exact ⟨rfl, rfl⟩)
section
variable {B : Nat} {W w : World} {ps rs : Nat} {st : St} {m : Nat}
theorem Does_of (h : Bo B W ps rs st m w) (ho : st.o = 0 ∨ st.o = 1) (hr : RightS st.s) (o : Od) (A : Option Addr) (N C : Nat) (hl : PtsIn (fun x => x < B) w A N o.l) (hk : Fits8 o.k) (hm : m + N ≤ 10000) :
  Calls Tryz.prog 36 #[.pointer (some ⟨ps, 0, none⟩), .pointer (some ⟨rs, 0, none⟩), .agg #[.int .u8 o.k, .slice A N C, .int .i64 o.z]] w fun e w' => e = .returned (.int .i64 1) ∧ Bo B W ps rs (doM st o) (m + N) w' := by
 have hb0 : Below w.heap.size w (w.alloc (.cells #[.int .u8 o.k, .slice A N C, .int .i64 o.z] 76)) := (Below.refl _ _).alloc (Nat.le_refl _) _
 obtain ⟨q, hq⟩ : ∃ q, q = w.heap.size := ⟨_, rfl⟩
 have bs : Blk (w.alloc (.cells #[.int .u8 o.k, .slice A N C, .int .i64 o.z] 76)) q [.int .u8 o.k, .slice A N C, .int .i64 o.z] 76 := Blk.new' hq.symm rfl
 have HD : Hid (Calls Tryz.prog 80 #[.pointer (some ⟨ps, 0, none⟩), .pointer (some ⟨rs, 0, none⟩), .agg #[.int .u8 o.k, .slice A N C, .int .i64 o.z]] (w.alloc (.cells #[.int .u8 o.k, .slice A N C, .int .i64 o.z] 76)) fun e w' => e = .returned (.bool true) ∧ Bo B W ps rs (doM st o) (m + N) w') := does_of (h.under hb0) ho hr o A N C (hl.below hb0) hk hm
 have HT : Hid (∀ V, Calls Tryz.prog 31 #[.bool true] V fun e w' => e = .returned (.int .i64 1) ∧ w' = V) := fun V => truth_of true V
 clear h hl hb0
 go_enter Tryz.func36, Tryz.ntmps36
 go_wp2_with fail
 rw [← hq]
 generalize World.alloc w _ = V at bs HD ⊢
 have y0 : V.cell? ⟨q, 0, none⟩ = some (.int .u8 o.k) := bs.cell 0
 have y1 : V.cell? ⟨q, 1, none⟩ = some (.slice A N C) := bs.cell 1
 have y2 : V.cell? ⟨q, 2, none⟩ = some (.int .i64 o.z) := bs.cell 2
 clear hq bs
 go_wp2_with (first
  | (go_at_call 80; refine HD.out.mono ?_; rintro e w2 ⟨rfl, h2⟩)
  | (go_at_call 31; refine (HT.out _).mono ?_; rintro e w3 ⟨rfl, rfl⟩))
 go_ret
 exact ⟨rfl, h2⟩
theorem Same_of (h : Bo B W ps rs st m w) (hm : m ≤ 10000) :
  Calls Tryz.prog 16 #[.pointer (some ⟨ps, 0, none⟩), .pointer (some ⟨rs, 0, none⟩)] w fun e w' => e = .returned (.int .i64 1) ∧ Bo B W ps rs st m w' := by
 have HD : Hid (Calls Tryz.prog 53 #[.pointer (some ⟨ps, 0, none⟩), .pointer (some ⟨rs, 0, none⟩)] w fun e w' => e = .returned (.bool true) ∧ Bo B W ps rs st m w') := (same_bo h hm).mono (fun e w' hh => ⟨hh.1, h.under hh.2⟩)
 have HT : Hid (∀ V, Calls Tryz.prog 31 #[.bool true] V fun e w' => e = .returned (.int .i64 1) ∧ w' = V) := fun V => truth_of true V
 clear h
 go_enter Tryz.func16, Tryz.ntmps16
 go_wp2_with (first
  | (go_at_call 53; refine HD.out.mono ?_; rintro e w2 ⟨rfl, h2⟩)
  | (go_at_call 31; refine (HT.out _).mono ?_; rintro e w3 ⟨rfl, rfl⟩))
 go_ret
 exact ⟨rfl, h2⟩
theorem bo_new {s : Sh} {W V w1 w2 : World} {D D' M' : Nat → Prop} {k : Bs} {k' : Rs} (hW : Below W.heap.size W V) (h1 : StV D w1 k (st0 s) 0) (b1 : Below V.heap.size V w1) (g1 : ∀ x, StO D k x → V.heap.size ≤ x) (h2 : SdV D' M' w2 k' (st0 s)) (b2 : Below w1.heap.size w1 w2) (g2 : ∀ x, SdO D' M' k' x → w1.heap.size ≤ x) : Bo W.heap.size W k.ps k'.ps (st0 s) 0 w2 := by
 have e1 := hW.size
 have e2 := b1.size
 refine ⟨D, k, D', M', k', rfl, rfl, h1.under b2, h2, fun x hx => by have := g1 x hx; omega, fun x hx => by have := g2 x hx; omega, fun x hx hs => ?_, (hW.trans (b1.mono e1)).trans (b2.mono (by omega)), Nat.zero_le _⟩
 have := g2 x hs
 have := h1.all x hx
 omega
end
end Go.Proofs.YtncnkpnfmbgifaaGreat

/- Small facts that StoreDoes and the laws behind it take. -/
namespace Go.Proofs.YtncnkpnfmbgifaaGreat
open Go.RowKit
set_option linter.unusedVariables false
set_option maxRecDepth 4000
theorem put_sh : ∀ (f : Nat) (st : St) (l : List Pt), (putF f st l).2.s = st.s
 | 0, st, l => by unfold putF; rfl
 | f + 1, st, [] => by unfold putF; rfl
 | f + 1, st, p :: l => by
  rw [putFstep]
  split
  ·rw [put_sh f]; rfl
  ·rfl
theorem do_sh (st : St) (o : Od) : (doM st o).s = st.s := by
 unfold doM
 split
 ·rfl
 ·split
  ·rfl
  ·split
   ·unfold clearM; split <;> rfl
   ·unfold putM
    split
    ·exact put_sh _ _ _
    ·rfl
section
variable {B : Nat} {W w : World} {ps rs : Nat} {st : St} {m m' : Nat}
theorem Bo.bel (h : Bo B W ps rs st m w) : Below B W w := by
 obtain ⟨D, k, D', M', k', h1, h2, h3, h4, h5, h6, h7, h8, h9⟩ := h
 exact h8
theorem Bo.mono (h : Bo B W ps rs st m w) (hm : m ≤ m') : Bo B W ps rs st m' w := by
 obtain ⟨D, k, D', M', k', h1, h2, h3, h4, h5, h6, h7, h8, h9⟩ := h
 exact ⟨D, k, D', M', k', h1, h2, h3.mono hm, h4, h5, h6, h7, h8, by omega⟩
end
end Go.Proofs.YtncnkpnfmbgifaaGreat

/- Where blocks are: what holds of the zones of a store that was made new, whatever is put. -/
namespace Go.Proofs.YtncnkpnfmbgifaaGreat
open Go.RowKit
set_option linter.unusedVariables false
set_option maxRecDepth 4000
theorem app_other {s : Sh} {zs : List Zn} {z x : Nat} {D : List Int} (h : x ≠ z) : atZ (appZ s zs z D) x = atZ zs x := by
 unfold appZ
 split
 ·split
  ·rfl
  ·unfold atZ
   simp only [Int.toNat_natCast]
   split
   ·simp only [List.getD_eq_getElem?_getD, List.getElem?_set_ne (show z ≠ x by omega)]
   ·rfl
 ·rfl
theorem wr_other {st : St} {z x : Nat} {l : List Pt} (h : x ≠ z) : ∀ j, j ≤ l.length → atZ (wrY st z l j).1 x = atZ st.zs x := by
 intro j
 induction j with
 | zero => intro _; rw [wrY_zero]; exact app_other h
 | succ j ih =>
  intro hj
  obtain ⟨p, hp⟩ : ∃ p, l[j]? = some p := ⟨l[j], by simp [show j < l.length by omega]⟩
  rw [wrY_next hp]
  unfold oneP
  split
  ·exact ih (by omega)
  ·rw [show atZ (appZ st.s (wrY st z l j).1 z p.d) x = atZ (wrY st z l j).1 x from app_other h]
   exact ih (by omega)
def Sml (s : Sh) : Prop := s.z ≤ 12 ∧ s.zb ≤ 16
theorem nodup_le : ∀ (N : Nat) (l : List Nat), l.Nodup → (∀ x ∈ l, x < N) → l.length ≤ N
 | 0, l, _, h => by
  cases l with
  | nil => exact Nat.le_refl _
  | cons x r => have := h x (by simp); omega
 | N + 1, l, hn, h => by
  by_cases hm : N ∈ l
  ·have := nodup_le N (l.erase N) (hn.erase N) (fun x hx => by
    have := hn.mem_erase_iff.1 hx
    have := h x this.2
    omega)
   rw [List.length_erase_of_mem hm] at this
   omega
  ·have := nodup_le N l hn (fun x hx => by
    have := h x hx
    have : x ≠ N := fun e => hm (e ▸ hx)
    omega)
   omega
theorem size_S {st : St} (h : Inv st) (hz : Sml st.s) : st.S.length ≤ 192 := by
 have hw := h.wf.len
 have at' : ∀ x ∈ st.S, ∃ i j : Nat, x.2 = ((i : Int), (j : Int)) ∧ i < 12 ∧ j < 16 := fun x hx => by
  obtain ⟨E, hE⟩ := Option.isSome_iff_exists.1 (h.plc.2 x hx)
  obtain ⟨i, j, z, e, h1, h2⟩ := blkZ_some hE
  have a1 := (List.getElem?_eq_some_iff.1 h1).1
  have a2 := (List.getElem?_eq_some_iff.1 h2).1
  have a3 := (h.wf.zone z (List.mem_of_getElem? h1)).1
  have := hz.1
  have := hz.2
  exact ⟨i, j, e, by omega, by omega⟩
 have hn : (st.S.map (fun x => x.2.1.toNat * 16 + x.2.2.toNat)).Nodup := by
  rw [List.Nodup, List.pairwise_map]
  refine h.plc.1.apart.imp_of_mem (fun {a b} ha hb hne e => hne ?_)
  obtain ⟨i, j, ea, hi, hj⟩ := at' a ha
  obtain ⟨i', j', eb, hi', hj'⟩ := at' b hb
  rw [ea, eb] at e ⊢
  simp only [Int.toNat_natCast] at e
  have : i = i' ∧ j = j' := by omega
  rw [this.1, this.2]
 have := nodup_le 192 _ hn (fun y hy => by
  obtain ⟨x, hx, rfl⟩ := List.mem_map.1 hy
  obtain ⟨i, j, e, hi, hj⟩ := at' x hx
  rw [e]
  simp only [Int.toNat_natCast]
  omega)
 simpa using this
theorem PlIn.at {w : World} {a : Option Addr} {n : Nat} {L : List Pl} (h : PlIn w a n L) {i : Nat} (hi : i < n) : ∃ (x : Pl) (g : Nat), L[i]? = some x ∧ a = some ⟨g, 0, none⟩ ∧ w.cell? ⟨g, i * 4, none⟩ = some (.int .u32 x.1.1) ∧ w.cell? ⟨g, i * 4 + 1, none⟩ = some (.int .u64 x.1.2) ∧ w.cell? ⟨g, i * 4 + 2, none⟩ = some (.int .i64 x.2.1) ∧ w.cell? ⟨g, i * 4 + 3, none⟩ = some (.int .i64 x.2.2) := by
 obtain ⟨g, rfl, hc⟩ := h.2.resolve_left (by omega)
 have hl := h.1
 obtain ⟨x, hx⟩ : ∃ x, L[i]? = some x := ⟨L[i], by simp [show i < L.length by omega]⟩
 exact ⟨x, g, hx, rfl, hc i x hx⟩
end Go.Proofs.YtncnkpnfmbgifaaGreat
