/- P54 -/
import Derived.Test.YtcdnjeiamihhbabGreatP53
set_option linter.unusedVariables false
set_option maxRecDepth 4000
namespace Go.Proofs.YtcdnjeiamihhbabGreat
open Go.RowKit
/-- A record of blocks to be put, and their data. -/
def grpB (b : Int) (q : Int) (l : List Pt) : List (List Int) := encB q (l.map itP) b :: (l.filter (fun p => !p.x)).map (·.d)
def zonB (b : Int) (L : List (Int × List Pt)) : List (List Int) := L.flatMap (fun y => grpB b y.1 y.2)
/-- A record as a store writes it. -/
structure RecOk (s : Sh) (q : Int) (l : List Pt) : Prop where
 good : GoodR (l.map itP) s.b
 fits : ∀ p ∈ l, p.Fits
 len : ∀ p ∈ l, p.x = true ∨ (p.d.length : Int) = s.b
 q : FitsU q
theorem zonB_snoc (b : Int) (L : List (Int × List Pt)) (q : Int) (l : List Pt) : zonB b (L ++ [(q, l)]) = zonB b L ++ grpB b q l := by simp [zonB]
theorem RecOk.isR {s : Sh} {q : Int} {l : List Pt} (h : RecOk s q l) : IsR (encB q (l.map itP) s.b) ∧ decE (encB q (l.map itP) s.b) = 0 ∧ decS (encB q (l.map itP) s.b) = q ∧ decX (encB q (l.map itP) s.b) = l.map itP := by
 have hb := h.good.bounds
 have hx : ∀ x ∈ l.map itP, x.Fits := fun x hx => by
  obtain ⟨p, hp, rfl⟩ := List.mem_map.1 hx
  rcases h.len p hp with h1 | h1
  ·have := h.fits p hp
   unfold itP
   rw [if_pos h1]
   exact ⟨this.1, this.2.1, by show Fits8 2; unfold Fits8; omega, by show Fits32 0; unfold Fits32; omega, by show Fits16 0; unfold Fits16; omega⟩
  ·exact itP_fits (h.fits p hp) (by omega)
 obtain ⟨h1, h2, h3⟩ := isR_enc (block := s.b) h.q hx h.good
 have he : encB q (l.map itP) s.b = encL q (l.map itP) s.b.toNat := by unfold encB; rw [if_pos h.good]
 rw [← he] at h1 h2 h3
 exact ⟨h1, by unfold decE; rw [if_pos h1], by unfold decS; rw [if_pos h1]; exact h2, by unfold decX; rw [if_pos h1]; exact h3⟩
theorem checkB_itP {p : Pt} (h : p.x = false) : checkB (itP p) p.d = true := by
 unfold checkB itP
 rw [if_neg (by simp [h])]
 simp
/-- Behind a record come its data: a scan goes on behind them. -/
theorem endM_grp {zs : List Zn} {z : Int} : ∀ (l : List Pt) (i : Nat), (∀ (j : Nat) (D : List Int), ((l.filter (fun p => !p.x)).map (·.d))[j]? = some D → blkZ zs (z, ((i + j : Nat) : Int)) = some D) → endM zs z (l.map itP) i = some (i + ((l.filter (fun p => !p.x)).map (·.d)).length)
 | [], i, _ => rfl
 | p :: l, i, h => by
  rw [List.map_cons]
  cases hx : p.x with
  | true =>
   have hk : (itP p).k ≠ 1 := by unfold itP; rw [if_pos hx]; show (2 : Int) ≠ 1; decide
   have hf : (p :: l).filter (fun p => !p.x) = l.filter (fun p => !p.x) := by simp [hx]
   rw [endM_skip hk, hf]
   exact endM_grp l i (fun j D hj => h j D (by rw [hf]; exact hj))
  | false =>
   have hk : (itP p).k = 1 := by unfold itP; rw [if_neg (by simp [hx])]
   have hf : (p :: l).filter (fun p => !p.x) = p :: l.filter (fun p => !p.x) := by simp [hx]
   have h0 := h 0 p.d (by rw [hf]; rfl)
   rw [Nat.add_zero] at h0
   rw [endM_data hk h0 (checkB_itP hx), hf]
   rw [endM_grp l (i + 1) (fun j D hj => by
    have := h (j + 1) D (by rw [hf]; exact hj)
    rw [show i + 1 + j = i + (j + 1) by omega]
    exact this)]
   simp
   omega
theorem recEnd_zon {s : Sh} {zs : List Zn} {z : Nat} {zn : Zn} (hz : zs[z]? = some zn) {L1 L2 : List (Int × List Pt)} {q : Int} {l : List Pt} (hb : zn.1 = zonB s.b (L1 ++ (q, l) :: L2)) (h : RecOk s q l) :
  recB zs ((z : Int), (((zonB s.b L1).length : Nat) : Int)) = some (encB q (l.map itP) s.b) ∧ recEnd zs (z : Int) (zonB s.b L1).length = some ((zonB s.b L1).length + (grpB s.b q l).length) := by
 obtain ⟨h1, h2, h3, h4⟩ := h.isR
 have hbs : zn.1 = zonB s.b L1 ++ (encB q (l.map itP) s.b :: ((l.filter (fun p => !p.x)).map (·.d) ++ zonB s.b L2)) := by
  rw [hb]
  simp [zonB, grpB]
 have hat : ∀ k : Nat, blkZ zs ((z : Int), (((zonB s.b L1).length + k : Nat) : Int)) = (encB q (l.map itP) s.b :: ((l.filter (fun p => !p.x)).map (·.d) ++ zonB s.b L2))[k]? := by
  intro k
  rw [blkZ_nat, hz]
  show zn.1[_]? = _
  rw [hbs, List.getElem?_append_right (by omega)]
  congr 1
  omega
 have hr : recB zs ((z : Int), (((zonB s.b L1).length : Nat) : Int)) = some (encB q (l.map itP) s.b) := by
  have h0 := hat 0
  rw [Nat.add_zero] at h0
  unfold recB
  rw [h0]
  simp only [List.getElem?_cons_zero]
  rw [if_pos h2]
 refine ⟨hr, ?_⟩
 unfold recEnd
 rw [hr]
 show endM zs z (decX (encB q (l.map itP) s.b)) ((zonB s.b L1).length + 1) = _
 rw [h4, endM_grp l ((zonB s.b L1).length + 1) (fun j D hj => by
  rw [show (zonB s.b L1).length + 1 + j = (zonB s.b L1).length + (j + 1) by omega, hat (j + 1), List.getElem?_cons_succ, List.getElem?_append_left (List.getElem?_eq_some_iff.1 hj).1]
  exact hj)]
 unfold grpB
 rw [List.length_cons]
 congr 1
 omega
/-- Where the records of such a zone stand. -/
def posB (b : Int) : Nat → List (Int × List Pt) → List Nat
 | _, [] => []
 | n, y :: L => n :: posB b (n + (grpB b y.1 y.2).length) L
theorem scan_zon {s : Sh} {zs : List Zn} {z : Nat} {zn : Zn} (hz : zs[z]? = some zn) : ∀ (L2 L1 : List (Int × List Pt)) (f : Nat), zn.1 = zonB s.b (L1 ++ L2) → (∀ y ∈ L2, RecOk s y.1 y.2) → L2.length ≤ f → scanP zs (z : Int) f (zonB s.b L1).length = posB s.b (zonB s.b L1).length L2
 | [], L1, f, hb, _, _ => by
  refine (scanP_end ?_ f).trans rfl
  cases he : recEnd zs (z : Int) (zonB s.b L1).length with
  | none => rfl
  | some e =>
   obtain ⟨_, _, _, _, h4⟩ := recEnd_some he
   rw [List.append_nil] at hb
   rw [atZ_in hz, hb] at h4
   omega
 | y :: L2, L1, 0, _, _, hf => by simp at hf
 | (q, l) :: L2, L1, f + 1, hb, ho, hf => by
  have h1 := (recEnd_zon hz hb (ho (q, l) (by simp))).2
  rw [scanP_step h1]
  show _ :: _ = _ :: _
  have e : (zonB s.b L1).length + (grpB s.b q l).length = (zonB s.b (L1 ++ [(q, l)])).length := by rw [zonB_snoc, List.length_append]
  rw [e, scan_zon hz L2 (L1 ++ [(q, l)]) f (by rw [hb, List.append_assoc]; rfl) (fun y hy => ho y (by simp [hy])) (by rw [List.length_cons] at hf; omega)]
theorem app_at {s : Sh} {zs : List Zn} {i : Nat} {E : List Int} (hok : appOk s zs i E) (hf : ¬ appFull s zs i) : (atZ (appZ s zs i E) i).1 = (atZ zs i).1 ++ [E] := by
 unfold appZ
 rw [if_pos hok, if_neg hf]
 have hi : i < zs.length := by have := hok.2.1; omega
 have : (zs.set ((i : Nat) : Int).toNat ((atZ zs i).1 ++ [E], (atZ zs i).2))[i]? = some ((atZ zs i).1 ++ [E], (atZ zs i).2) := by simp [hi]
 rw [atZ_in this]
theorem wr_zone {st : St} {i : Nat} {l : List Pt} (hi : Inv st) (a1 : i < st.zs.length) (h0 : 0 < l.length) (a4 : (l.length : Int) ≤ roomI st.s.b) (a2 : okP st.s l) (a3 : ∀ p ∈ l, p.Fits) (a5 : ((datN l : Nat) : Int) + 1 ≤ roomZ st.s st.zs i) :
  ∀ k, k ≤ l.length → (atZ (wrY st i l k).1 i).1 = (atZ st.zs i).1 ++ (encB (incU st.q) (l.map itP) st.s.b :: ((l.take k).filter (fun p => !p.x)).map (·.d)) := by
 intro k
 have hr := hi.wf.right
 have hg : GoodR (l.map itP) st.s.b := ⟨by simpa using h0, by simpa using a4, fun x hx => by
  obtain ⟨p, hp, rfl⟩ := List.mem_map.1 hx
  exact itP_right hr (a2 p hp)⟩
 induction k with
 | zero =>
  intro _
  rw [wrY_zero]
  have hb := power_bounds hr.2.2.2.2.1
  have hlen : ((encB (incU st.q) (l.map itP) st.s.b).length : Int) = st.s.b := by
   have := hg.bounds
   unfold encB
   rw [if_pos hg, enc_length (by omega)]
   omega
  have hok : appOk st.s st.zs i (encB (incU st.q) (l.map itP) st.s.b) := ⟨by omega, by omega, hlen⟩
  have hnf : ¬ appFull st.s st.zs i := by unfold appFull; unfold roomZ at a5; omega
  show (atZ (appZ st.s st.zs i (encB (incU st.q) (l.map itP) st.s.b)) i).1 = _
  rw [app_at hok hnf]
  rfl
 | succ k ih =>
  intro hk
  obtain ⟨p, hp⟩ : ∃ p, l[k]? = some p := ⟨l[k]'(by omega), by simp⟩
  have ih' := ih (by omega)
  obtain ⟨_, _, _, w5, w6⟩ := wr_mem (z := i) (l := l) hi a1 h0 a4 a2 a3 a5 k (by omega)
  rw [wrY_next hp, take_snoc hp, List.filter_append, List.map_append]
  unfold oneP
  cases hx : p.x with
  | true =>
   rw [if_pos rfl]
   show (atZ (wrY st i l k).1 i).1 = _
   rw [ih']
   simp [hx]
  | false =>
   rw [if_neg (by decide)]
   have hd : (p.d.length : Int) = st.s.b := by
    rcases a2 p (List.mem_of_getElem? hp) with h | h
    ·rw [hx] at h; cases h
    ·exact h
   have hok : appOk st.s (wrY st i l k).1 i p.d := ⟨by omega, by rw [w6]; omega, hd⟩
   have hnf : ¬ appFull st.s (wrY st i l k).1 i := by
    unfold appFull
    rw [w5]
    unfold roomZ at a5
    have hsub : datN (l.take (k + 1)) ≤ datN l := (List.Sublist.filter _ (List.take_sublist _ _)).length_le
    have hnx : datN (l.take (k + 1)) = datN (l.take k) + 1 := by
     unfold datN
     rw [take_snoc hp, List.filter_append]
     simp [hx]
    omega
   show (atZ (appZ st.s (wrY st i l k).1 i p.d) i).1 = _
   rw [app_at hok hnf, ih']
   simp [hx]
theorem one_only {L : List Int} {a : Int} (ha : a ≠ 0) (h : cntZ L a ≤ 1) {i j : Nat} (hi : L.getD i 0 = a) (hj : L.getD j 0 = a) : i = j := by
 have lt : ∀ {k : Nat}, L.getD k 0 = a → k < L.length := fun {k} hk => by
  rcases Nat.lt_or_ge k L.length with h | h
  ·exact h
  ·have : L.getD k 0 = 0 := by simp [List.getD, List.getElem?_eq_none h]
   omega
 have m1 : (i : Int) ∈ listTo L a L.length := listTo_mem.2 ⟨i, lt hi, hi, rfl⟩
 have m2 : (j : Int) ∈ listTo L a L.length := listTo_mem.2 ⟨j, lt hj, hj, rfl⟩
 have hl : (listTo L a L.length).length ≤ 1 := h
 match hL : listTo L a L.length, m1, m2, hl with
 | [x], m1, m2, _ =>
  rw [List.mem_singleton] at m1 m2
  omega
def sumG (G : Nat → List (Int × List Pt)) : Nat → Nat
 | 0 => 0
 | k + 1 => sumG G k + (G k).length
theorem sumG_set {G G' : Nat → List (Int × List Pt)} {i : Nat} (h : ∀ z, z ≠ i → G' z = G z) (h1 : (G' i).length = (G i).length + 1) : ∀ k, sumG G' k = sumG G k + if i < k then 1 else 0
 | 0 => by simp [sumG]
 | k + 1 => by
  have ih := sumG_set h h1 k
  show sumG G' k + (G' k).length = sumG G k + (G k).length + _
  by_cases hk : k = i
  ·subst hk
   rw [ih, h1, if_neg (by omega), if_pos (by omega)]
   omega
  ·rw [ih, h k hk]
   by_cases h2 : i < k
   ·rw [if_pos h2, if_pos (by omega)]; omega
   ·rw [if_neg h2, if_neg (by omega)]; omega
/-- What the zones of the log hold: records whole, their numbers in a row; as many as the last number. -/
structure Wh (st : St) (G : Nat → List (Int × List Pt)) : Prop where
 zone : ∀ z : Nat, 2 ≤ z → z < st.zs.length → (atZ st.zs z).1 = zonB st.s.b (G z)
 ok : ∀ z : Nat, ∀ y ∈ G z, RecOk st.s y.1 y.2
 cons : ∀ (z i : Nat) (x y : Int × List Pt), (G z)[i]? = some x → (G z)[i + 1]? = some y → y.1 = x.1 + 1
 opn : ∀ z : Nat, st.L.getD z 0 = 2 → ∀ y, (G z).getLast? = some y → y.1 = st.q
 sum : (sumG G st.zs.length : Int) = st.q
 lo : G 0 = [] ∧ G 1 = []
theorem zonB_nil {b : Int} {L : List (Int × List Pt)} (h : zonB b L = []) : L = [] := by
 cases L with
 | nil => rfl
 | cons y L => simp [zonB, grpB] at h
theorem Wh.write {st : St} {G : Nat → List (Int × List Pt)} (h : Wh st G) {i : Nat} {l : List Pt} {L' : List Int} (hi : Inv { st with L := L' }) (a1 : i < st.zs.length) (h0 : 0 < l.length) (a4 : (l.length : Int) ≤ roomI st.s.b) (a2 : okP st.s l) (a3 : ∀ p ∈ l, p.Fits) (a5 : ((datN l : Nat) : Int) + 1 ≤ roomZ st.s st.zs i) (hi2 : 2 ≤ i) (hop : OpZ st.L L' i) (hfr : st.L.getD i 0 = 1 → (atZ st.zs i).1 = []) (hq : incU st.q = st.q + 1) :
  Wh (writeM { st with L := L' } i l) (fun z => if z = i then G i ++ [(st.q + 1, l)] else G z) := by
 have hr := hi.wf.right
 have hg : GoodR (l.map itP) st.s.b := ⟨by simpa using h0, by simpa using a4, fun x hx => by
  obtain ⟨p, hp, rfl⟩ := List.mem_map.1 hx
  exact itP_right hr (a2 p hp)⟩
 have hrec : RecOk st.s (st.q + 1) l := ⟨hg, a3, a2, by rw [← hq]; exact incU_fits _⟩
 have hzi := wr_zone (st := { st with L := L' }) (i := i) (l := l) hi a1 h0 a4 a2 a3 a5 l.length (Nat.le_refl _)
 rw [List.take_length] at hzi
 obtain ⟨_, _, _, _, w6⟩ := wr_mem (st := { st with L := L' }) (z := i) (l := l) hi a1 h0 a4 a2 a3 a5 _ (Nat.le_refl _)
 have hlast : ∀ y, (G i).getLast? = some y → y.1 = st.q := fun y hy => by
  rcases hop.was with h1 | h1
  ·have e := h.zone i hi2 a1
   rw [hfr h1] at e
   rw [zonB_nil e.symm] at hy
   cases hy
  ·exact h.opn i h1 y hy
 have hiL : i < L'.length := by
  have := hi.len
  have e : L'.length = st.zs.length := this
  omega
 obtain ⟨f1, f2, f3, f4⟩ := fullL_cases (s := st.s) (zs := (wrY { st with L := L' } i l l.length).1) hiL hop.at_i hop.one
 refine ⟨fun z hz hzl => ?_, fun z y hy => ?_, fun z j x y hx hy => ?_, fun z hz y hy => ?_, ?_, ?_⟩
 ·show (atZ (wrY { st with L := L' } i l l.length).1 z).1 = zonB st.s.b _
  have hzl' : z < st.zs.length := by
   have : z < (wrY { st with L := L' } i l l.length).1.length := hzl
   rw [w6] at this
   exact this
  by_cases hzi' : z = i
  ·subst hzi'
   rw [hzi, if_pos rfl, zonB_snoc, ← h.zone z hz hzl']
   show (atZ st.zs z).1 ++ (encB (incU st.q) _ _ :: _) = _
   rw [hq]
   rfl
  ·rw [wr_other (z := i) hzi' _ (Nat.le_refl _), if_neg hzi']
   exact h.zone z hz hzl'
 ·show RecOk st.s y.1 y.2
  by_cases hzi' : z = i
  ·rw [if_pos hzi'] at hy
   rcases List.mem_append.1 hy with hy | hy
   ·exact h.ok i y hy
   ·rw [List.mem_singleton.1 hy]; exact hrec
  ·rw [if_neg hzi'] at hy
   exact h.ok z y hy
 ·by_cases hzi' : z = i
  ·simp only [if_pos hzi'] at hx hy
   rcases Nat.lt_or_ge (j + 1) (G i).length with hj | hj
   ·rw [List.getElem?_append_left hj] at hy
    rw [List.getElem?_append_left (by omega)] at hx
    exact h.cons i j x y hx hy
   ·have hj2 := (List.getElem?_eq_some_iff.1 hy).1
    rw [List.length_append, List.length_singleton] at hj2
    have ej : (G i).length = j + 1 := by omega
    rw [List.getElem?_append_right (by omega), ej, Nat.sub_self] at hy
    simp only [List.getElem?_cons_zero, Option.some.injEq] at hy
    rw [List.getElem?_append_left (by omega)] at hx
    have := hlast x (by rw [List.getLast?_eq_getElem?, ej]; exact hx)
    rw [← hy, this]
  ·simp only [if_neg hzi'] at hx hy
   exact h.cons z j x y hx hy
 ·show y.1 = incU st.q
  by_cases hzi' : z = i
  ·rw [if_pos hzi', List.getLast?_append] at hy
   simp at hy
   rw [← hy, hq]
  ·rw [if_neg hzi'] at hy
   have e : (fullL st.s (wrY { st with L := L' } i l l.length).1 L' (i : Nat)).getD z 0 = 2 := hz
   rw [f3 z hzi'] at e
   exact (hzi' (one_only (by decide) hop.one e hop.at_i)).elim
 ·show ((sumG _ (wrY { st with L := L' } i l l.length).1.length : Nat) : Int) = incU st.q
  rw [w6, hq, sumG_set (G := G) (i := i) (fun z hz => by simp [hz]) (by simp) st.zs.length, if_pos a1]
  have := h.sum
  omega
 ·exact ⟨by rw [if_neg (by omega)]; exact h.lo.1, by rw [if_neg (by omega)]; exact h.lo.2⟩
theorem put_wh : ∀ (f : Nat) (st : St) (l : List Pt) (G : Nat → List (Int × List Pt)), Wh st G → Inv3 st → okP st.s l → (∀ p ∈ l, p.Fits) → l.length ≤ f → 0 ≤ st.q → st.q + l.length < 1000000 → Inv3 (putF f st l).2 ∧ 0 ≤ (putF f st l).2.q ∧ (putF f st l).2.q ≤ st.q + l.length ∧ ∃ G', Wh (putF f st l).2 G'
 | 0, st, l, G, hw, hi, ho, hf, hl, hq, hq2 => by unfold putF; exact ⟨hi, hq, by show st.q ≤ _; omega, G, hw⟩
 | f + 1, st, [], G, hw, hi, ho, hf, hl, hq, hq2 => by unfold putF; exact ⟨hi, hq, by simp, G, hw⟩
 | f + 1, st, p :: l, G, hw, hi, ho, hf, hl, hq, hq2 => by
  have hr := hi.i2.inv.wf.right
  have hfree : ∀ x : Nat, st.L.getD x 0 = 1 → needP p ≤ roomZ st.s st.zs x := fun x hx => by
   have hx2 : 2 ≤ x := by
    rcases x with _ | _ | x
    ·rw [hi.i2.k0] at hx; omega
    ·rw [hi.i2.k1] at hx; omega
    ·omega
   have hxl : x < st.L.length := by
    rcases Nat.lt_or_ge x st.L.length with h | h
    ·exact h
    ·have : st.L.getD x 0 = 0 := by simp [List.getD, List.getElem?_eq_none h]
     omega
   have : needP p ≤ 2 := by unfold needP; split <;> omega
   have h8 := hr.2.2.1
   rcases hi.fr x hx2 hxl with ⟨_, h, _⟩ | ⟨h, _⟩
   ·unfold roomZ; rw [h]; simp; omega
   ·omega
  have hlen := openZ_length st.s st.zs (needP p) _ st.L rfl
  rw [putFstep]
  rcases open_opn st.s st.zs (needP p) _ st.L rfl hi.one hfree with ⟨hb, i, h1, h2, hop, h4⟩ | ⟨hb, hop⟩
  ·rw [if_pos hb]
   have q0 := open_keep st.s st.zs (needP p) _ st.L rfl hi.i2.k0
   have q1 := open_keep st.s st.zs (needP p) _ st.L rfl hi.i2.k1
   have h3 := hop.at_i
   have hi2 : 2 ≤ i := by
    rcases i with _ | _ | i
    ·rw [q0] at h3; omega
    ·rw [q1] at h3; omega
    ·omega
   rw [h1]
   obtain ⟨n, hn⟩ : ∃ n, n = frontN st i (p :: l) := ⟨_, rfl⟩
   rw [← hn]
   have hpos : 0 < n := by rw [hn]; exact front_pos hr h4
   have hle := frN_le (p :: l) (roomI st.s.b).toNat (roomZ st.s st.zs i - 1)
   have hdat := frN_dat (p :: l) (roomI st.s.b).toNat (roomZ st.s st.zs i - 1)
   rw [show frN (p :: l) (roomI st.s.b).toNat (roomZ st.s st.zs i - 1) = n from hn.symm] at hle hdat
   have hroom : 1 ≤ roomZ st.s st.zs i := by have : 1 ≤ needP p := by unfold needP; split <;> omega
                                             omega
   have hR := roomI_nat hr
   obtain ⟨L', hL'⟩ : ∃ L', L' = (openZ st.s st.zs (needP p) st.L).2.2 := ⟨_, rfl⟩
   rw [← hL'] at hop q0 q1 h3 hlen ⊢
   have hi1 : Inv { st with L := L' } := ⟨hi.i2.inv.wf, hi.i2.inv.plc, by show L'.length = _; rw [hlen]; exact hi.i2.inv.len⟩
   have hlt : ((p :: l).take n).length = n := by rw [List.length_take]; omega
   have a1 : i < st.zs.length := by rw [← hi.i2.inv.len]; exact h2
   have a2 : okP st.s ((p :: l).take n) := fun x hx => ho x (List.mem_of_mem_take hx)
   have a3 : ∀ x ∈ (p :: l).take n, x.Fits := fun x hx => hf x (List.mem_of_mem_take hx)
   have a4 : (((p :: l).take n).length : Int) ≤ roomI st.s.b := by omega
   have a5 : ((datN ((p :: l).take n) : Nat) : Int) + 1 ≤ roomZ st.s st.zs i := by omega
   have w1 := (write_inv (z := i) (l := (p :: l).take n) hi1 a1 (by omega) a4 a2 a3 a5).1
   have w3 := wr_hi (z := i) (l := (p :: l).take n) hi1 a1 (by omega) a4 a2 a3 a5 hi2 hi.i2.hi _ (Nat.le_refl _)
   have w4 := wr_up (P := fun _ => True) (z := i) (l := (p :: l).take n) hi1 a1 (by omega) a4 a2 a3 a5 (fun x hx => ⟨hi.up x hx, trivial⟩) trivial _ (Nat.le_refl _)
   obtain ⟨_, _, _, w5, w6⟩ := wr_mem (z := i) (l := (p :: l).take n) hi1 a1 (by omega) a4 a2 a3 a5 _ (Nat.le_refl _)
   have hiL : i < L'.length := by rw [hop.len]; exact h2
   obtain ⟨f1, f2, f3, f4⟩ := fullL_cases (s := st.s) (zs := (wrY { st with L := L' } i ((p :: l).take n) ((p :: l).take n).length).1) hiL h3 hop.one
   have hinc : incU st.q = st.q + 1 := by unfold incU; simp only [List.length_cons] at hq2; omega
   have hst : Inv3 (writeM { st with L := L' } i ((p :: l).take n)) := by
    refine ⟨⟨w1, w3, ?_, ?_, hi.i2.o⟩, ?_, f4, fun x hx => (w4 x hx).1, ?_⟩
    ·show (fullL _ _ L' (i : Nat)).getD 0 0 = 4
     rw [f3 0 (by omega)]; exact q0
    ·show (fullL _ _ L' (i : Nat)).getD 1 0 = 4
     rw [f3 1 (by omega)]; exact q1
    ·intro z hz hzl
     have hzl' : z < st.L.length := by have : z < (fullL st.s (wrY { st with L := L' } i ((p :: l).take n) ((p :: l).take n).length).1 L' (i : Nat)).length := hzl; rw [f1, hop.len] at this; exact this
     show ((fullL st.s (wrY { st with L := L' } i ((p :: l).take n) ((p :: l).take n).length).1 L' (i : Nat)).getD z 0 = 1 ∧ (atZ (wrY { st with L := L' } i ((p :: l).take n) ((p :: l).take n).length).1 z).1 = [] ∧ (st.la.set ((i : Nat) : Int).toNat (incU st.q)).getD z 0 = 0) ∨ (((fullL st.s (wrY { st with L := L' } i ((p :: l).take n) ((p :: l).take n).length).1 L' (i : Nat)).getD z 0 = 2 ∨ (fullL st.s (wrY { st with L := L' } i ((p :: l).take n) ((p :: l).take n).length).1 L' (i : Nat)).getD z 0 = 3) ∧ (atZ (wrY { st with L := L' } i ((p :: l).take n) ((p :: l).take n).length).1 z).1 ≠ [] ∧ (st.la.set ((i : Nat) : Int).toNat (incU st.q)).getD z 0 ≠ 0)
     rw [Int.toNat_natCast, getD_set _ _ _ _ (by rw [hi.ll]; exact a1)]
     by_cases hzi : z = i
     ·subst hzi
      refine .inr ⟨f2, fun e => ?_, by rw [if_pos rfl, hinc]; omega⟩
      rw [e] at w5
      simp at w5
      try omega
     ·rw [f3 z hzi, wr_other (z := i) hzi _ (Nat.le_refl _), if_neg hzi]
      show (L'.getD z 0 = 1 ∧ (atZ st.zs z).1 = [] ∧ st.la.getD z 0 = 0) ∨ ((L'.getD z 0 = 2 ∨ L'.getD z 0 = 3) ∧ (atZ st.zs z).1 ≠ [] ∧ st.la.getD z 0 ≠ 0)
      rcases hi.fr z hz hzl' with ⟨e1, e2, e3⟩ | ⟨e1, e2, e3⟩
      ·rcases hop.oth z hzi with e | ⟨e, _⟩
       ·exact .inl ⟨by rw [e]; exact e1, e2, e3⟩
       ·omega
      ·refine .inr ⟨?_, e2, e3⟩
       rcases hop.oth z hzi with e | ⟨_, e⟩
       ·rw [e]; exact e1
       ·exact .inr e
    ·show (st.la.set _ _).length = (wrY _ _ _ _).1.length
     rw [List.length_set, w6]
     exact hi.ll
   have hwh := hw.write (L' := L') hi1 a1 (by omega) a4 a2 a3 a5 hi2 hop (fun e => by
    rcases hi.fr i hi2 h2 with ⟨_, h, _⟩ | ⟨h, _⟩
    ·exact h
    ·omega) hinc
   have hdl : ((p :: l).drop n).length = (p :: l).length - n := List.length_drop
   have hqn : (writeM { st with L := L' } i ((p :: l).take n)).q = st.q + 1 := hinc
   obtain ⟨r1, r2, r3, r4⟩ := put_wh f _ ((p :: l).drop n) _ hwh hst (fun x hx => ho x (List.mem_of_mem_drop hx)) (fun x hx => hf x (List.mem_of_mem_drop hx)) (by rw [hdl]; simp only [List.length_cons] at hl ⊢; omega) (by rw [hqn]; omega) (by rw [hqn, hdl]; simp only [List.length_cons] at hq2 hle ⊢; omega)
   refine ⟨r1, r2, ?_, r4⟩
   rw [hqn, hdl] at r3
   simp only [List.length_cons] at r3 hle ⊢
   omega
  ·rw [if_neg (by rw [hb]; decide)]
   refine ⟨⟨⟨⟨hi.i2.inv.wf, hi.i2.inv.plc, by show (openZ st.s st.zs (needP p) st.L).2.2.length = _; rw [hlen]; exact hi.i2.inv.len⟩, hi.i2.hi, open_keep st.s st.zs (needP p) _ st.L rfl hi.i2.k0, open_keep st.s st.zs (needP p) _ st.L rfl hi.i2.k1, hi.i2.o⟩, ?_, hop.one, hi.up, hi.ll⟩, hq, by show st.q ≤ _; simp only [List.length_cons]; omega, G, ⟨hw.zone, hw.ok, hw.cons, fun z hz => hw.opn z (by
    have hz' : (openZ st.s st.zs (needP p) st.L).2.2.getD z 0 = 2 := hz
    rcases hop.oth z with e | ⟨_, e⟩
    ·rw [← e]; exact hz'
    ·omega), hw.sum, hw.lo⟩⟩
   intro z hz hzl
   have hzl' : z < st.L.length := by have : z < (openZ st.s st.zs (needP p) st.L).2.2.length := hzl; rw [hlen] at this; exact this
   show ((openZ st.s st.zs (needP p) st.L).2.2.getD z 0 = 1 ∧ (atZ st.zs z).1 = [] ∧ st.la.getD z 0 = 0) ∨ (((openZ st.s st.zs (needP p) st.L).2.2.getD z 0 = 2 ∨ (openZ st.s st.zs (needP p) st.L).2.2.getD z 0 = 3) ∧ (atZ st.zs z).1 ≠ [] ∧ st.la.getD z 0 ≠ 0)
   rcases hi.fr z hz hzl' with ⟨e1, e2, e3⟩ | ⟨e1, e2, e3⟩
   ·rcases hop.oth z with e | ⟨e, _⟩
    ·exact .inl ⟨by rw [e]; exact e1, e2, e3⟩
    ·omega
   ·refine .inr ⟨?_, e2, e3⟩
    rcases hop.oth z with e | ⟨_, e⟩
    ·rw [e]; exact e1
    ·exact .inr e
theorem st0_wh {s : Sh} (h : RightS s) : Wh (st0 s) (fun _ => []) := by
 refine ⟨fun z hz _ => ?_, fun z y hy => by simp at hy, fun z i x y hx _ => by simp at hx, fun z _ y hy => by simp at hy, ?_, rfl, rfl⟩
 ·rw [st0_at s (by omega)]
  rfl
 ·show ((sumG (fun _ => []) _ : Nat) : Int) = 0
  have : ∀ k, sumG (fun _ => []) k = 0 := by
   intro k
   induction k with
   | zero => rfl
   | succ k ih => show sumG _ k + 0 = 0; rw [ih]
  rw [this]
  rfl
/-- Whatever is put to such a store, told or refused, it is such a one behind it. -/
theorem putM_wh {st : St} {l : List Pt} {G : Nat → List (Int × List Pt)} (hw : Wh st G) (hi : Inv3 st) (hf : ∀ p ∈ l, p.Fits) (hq : 0 ≤ st.q) (hq2 : st.q + l.length < 1000000) : Inv3 (putM st l).2 ∧ 0 ≤ (putM st l).2.q ∧ (putM st l).2.q ≤ st.q + l.length ∧ ∃ G', Wh (putM st l).2 G' := by
 unfold putM
 split
 ·rename_i hk
  exact put_wh _ st l G hw hi hk hf (Nat.le_refl _) hq hq2
 ·exact ⟨hi, hq, by show st.q ≤ _; omega, G, hw⟩
end Go.Proofs.YtcdnjeiamihhbabGreat
