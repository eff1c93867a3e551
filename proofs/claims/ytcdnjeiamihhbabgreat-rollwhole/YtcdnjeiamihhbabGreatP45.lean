/- P45 -/
import Derived.Test.YtcdnjeiamihhbabGreatP38
set_option linter.unusedVariables false
set_option maxRecDepth 4000
namespace Go.Proofs.YtcdnjeiamihhbabGreat
open Go.RowKit
/-- A block that is a record. -/
def recB (zs : List Zn) (a : Pr) : Option (List Int) := match blkZ zs a with
 | some E => if decE E = 0 then some E else none
 | none => none
/-- Behind the data of items, from a block on; none: they are not all there. -/
def endM (zs : List Zn) (z : Int) : List It → Nat → Option Nat
 | [], i => some i
 | x :: X, i => if x.k = 1 then (match blkZ zs (z, (i : Int)) with
  | some b => if checkB x b = true then endM zs z X (i + 1) else none
  | none => none) else endM zs z X i
theorem endM_skip {zs : List Zn} {z : Int} {x : It} {X : List It} {i : Nat} (h : x.k ≠ 1) : endM zs z (x :: X) i = endM zs z X i := by
 show (if x.k = 1 then _ else _) = _
 rw [if_neg h]
theorem endM_data {zs : List Zn} {z : Int} {x : It} {X : List It} {i : Nat} {b : List Int} (h : x.k = 1) (hb : blkZ zs (z, (i : Int)) = some b) (hc : checkB x b = true) : endM zs z (x :: X) i = endM zs z X (i + 1) := by
 show (if x.k = 1 then (match blkZ zs (z, (i : Int)) with
  | some b => if checkB x b = true then endM zs z X (i + 1) else none
  | none => none) else _) = _
 rw [if_pos h, hb]
 simp only [hc, if_true]
theorem endM_bad {zs : List Zn} {z : Int} {x : It} {X : List It} {i : Nat} (h : x.k = 1) (hb : ∀ b, blkZ zs (z, (i : Int)) = some b → checkB x b = false) : endM zs z (x :: X) i = none := by
 show (if x.k = 1 then (match blkZ zs (z, (i : Int)) with
  | some b => if checkB x b = true then endM zs z X (i + 1) else none
  | none => none) else _) = _
 rw [if_pos h]
 cases hz : blkZ zs (z, (i : Int)) with
 | none => rfl
 | some b => simp [hb b hz]
theorem endM_le {zs : List Zn} {z : Int} : ∀ (X : List It) (i j : Nat), endM zs z X i = some j → i ≤ j
 | [], i, j, h => by cases h; exact Nat.le_refl _
 | x :: X, i, j, h => by
  by_cases hx : x.k = 1
  ·cases hb : blkZ zs (z, (i : Int)) with
   | none => rw [endM_bad hx (fun b h => by rw [hb] at h; cases h)] at h; cases h
   | some b =>
    cases hc : checkB x b with
    | true =>
     rw [endM_data hx hb hc] at h
     have := endM_le X (i + 1) j h
     omega
    | false => rw [endM_bad hx (fun b' h' => by rw [hb] at h'; cases h'; exact hc)] at h; cases h
  ·rw [endM_skip hx] at h
   exact endM_le X i j h
/-- The end of the record at a block, if it is there whole. -/
def recEnd (zs : List Zn) (z : Int) (i : Nat) : Option Nat := match recB zs (z, (i : Int)) with
 | some E => endM zs z (decX E) (i + 1)
 | none => none
theorem recB_some {zs : List Zn} {a : Pr} {E : List Int} (h : recB zs a = some E) : blkZ zs a = some E ∧ decE E = 0 := by
 unfold recB at h
 split at h
 ·rename_i E' hE
  split at h
  ·rename_i h0
   cases h
   exact ⟨hE, h0⟩
  ·cases h
 ·cases h
theorem recEnd_some {zs : List Zn} {z : Int} {i e : Nat} (h : recEnd zs z i = some e) : ∃ E, recB zs (z, (i : Int)) = some E ∧ endM zs z (decX E) (i + 1) = some e ∧ i < e ∧ i < (atZ zs z).1.length := by
 unfold recEnd at h
 split at h
 ·rename_i E hE
  refine ⟨E, hE, h, by have := endM_le _ _ _ h; omega, ?_⟩
  obtain ⟨i', j, zn, e1, e2, e3⟩ := blkZ_some (recB_some hE).1
  simp only [Prod.mk.injEq] at e1
  obtain ⟨rfl, e1⟩ := e1
  have : j = i := by omega
  subst this
  have hj := (List.getElem?_eq_some_iff.1 e3).1
  unfold atZ
  rw [if_pos (by omega)]
  simp only [Int.toNat_natCast, List.getD_eq_getElem?_getD, e2, Option.getD_some]
  exact hj
 ·cases h
/-- The blocks at which the records of a zone stand, from one on. -/
def scanP (zs : List Zn) (z : Int) : Nat → Nat → List Nat
 | 0, _ => []
 | f + 1, i => match recEnd zs z i with
  | some e => i :: scanP zs z f e
  | none => []
def scanL (zs : List Zn) (z : Int) : List Nat := scanP zs z (atZ zs z).1.length 0
theorem scanP_end {zs : List Zn} {z : Int} {i : Nat} (h : recEnd zs z i = none) : ∀ f, scanP zs z f i = []
 | 0 => rfl
 | f + 1 => by
  show (match recEnd zs z i with
   | some e => i :: scanP zs z f e
   | none => []) = []
  rw [h]
theorem scanP_step {zs : List Zn} {z : Int} {i e f : Nat} (h : recEnd zs z i = some e) : scanP zs z (f + 1) i = i :: scanP zs z f e := by
 show (match recEnd zs z i with
  | some e => i :: scanP zs z f e
  | none => []) = _
 rw [h]
/-- A scan on its way: l was told, the next one stands at i. -/
def OnWay (zs : List Zn) (z : Int) (l : List Nat) (i : Nat) : Prop := ∃ f, scanL zs z = l ++ scanP zs z f i ∧ (atZ zs z).1.length ≤ i + f
theorem way_start (zs : List Zn) (z : Int) : OnWay zs z [] 0 := ⟨_, rfl, by omega⟩
theorem way_end {zs : List Zn} {z : Int} {l : List Nat} {i : Nat} (h : OnWay zs z l i) (he : recEnd zs z i = none) : scanL zs z = l := by
 obtain ⟨f, h1, _⟩ := h
 rw [h1, scanP_end he, List.append_nil]
theorem way_next {zs : List Zn} {z : Int} {l : List Nat} {i e : Nat} (h : OnWay zs z l i) (he : recEnd zs z i = some e) : OnWay zs z (l ++ [i]) e := by
 obtain ⟨f, h1, h2⟩ := h
 obtain ⟨_, _, _, h3, h4⟩ := recEnd_some he
 obtain ⟨f, rfl⟩ : ∃ g, f = g + 1 := ⟨f - 1, by omega⟩
 refine ⟨f, ?_, by omega⟩
 rw [h1, scanP_step he, List.append_assoc]
 rfl
theorem way_lt {zs : List Zn} {z : Int} {l : List Nat} {i e : Nat} (h : OnWay zs z l i) (he : recEnd zs z i = some e) : i < (atZ zs z).1.length ∧ i < e := by
 obtain ⟨_, _, _, h3, h4⟩ := recEnd_some he
 exact ⟨h4, h3⟩
section
theorem rd_some {zs : List Zn} {a : Pr} {E : List Int} (h : blkZ zs a = some E) : rdE zs a.1 a.2 = 0 ∧ rdB zs a.1 a.2 = E := by
 obtain ⟨i, j, z, rfl, hz, hj⟩ := blkZ_some h
 exact rd_at hz hj
theorem rd_none {zs : List Zn} {a : Pr} (h : blkZ zs a = none) : rdE zs a.1 a.2 = 100 ∨ rdE zs a.1 a.2 = 102 := by
 unfold rdE
 split
 ·rename_i hz
  split
  ·rename_i hb
   exfalso
   unfold zoneIn at hz
   unfold blockIn at hb
   unfold blkZ at h
   rw [if_pos ⟨hz.1, hb.1⟩] at h
   have hl : a.1.toNat < zs.length := by omega
   simp only [List.getElem?_eq_getElem hl, Option.bind_some] at h
   have h2 := List.getElem?_eq_none_iff.1 h
   have : (atZ zs a.1).1 = zs[a.1.toNat].1 := by
    unfold atZ
    rw [if_pos hz.1]
    simp [List.getD, hl]
   rw [this] at hb
   omega
  ·exact .inr rfl
 ·exact .inl rfl
theorem Dv.later {T : TypeId} {O : Nat → Prop} {W W' : World} {p : Nat} {s : Sh} {zs : List Zn} (h : Dv T O W p s zs) (hb : Below W.heap.size W W') : Dv T O W' p s zs := by
 obtain ⟨g, cc, vs, hv⟩ := h
 exact ⟨g, cc, vs, hv.under hb⟩
theorem Tryz.info_found : (Tryz.prog.info? 94).map (·.size) = some 4 := by kernel_rfl
def set4 (w : World) (q : Nat) (v0 v1 v2 v3 : Value) : World := (((w.setCell ⟨q, 0, none⟩ v0).setCell ⟨q, 1, none⟩ v1).setCell ⟨q, 2, none⟩ v2).setCell ⟨q, 3, none⟩ v3
theorem blk_set4 {w : World} {q : Nat} {a b c d : Value} {t : TypeId} (h : Blk w q [a, b, c, d] t) (v0 v1 v2 v3 : Value) : Blk (set4 w q v0 v1 v2 v3) q [v0, v1, v2, v3] t := (((h.set 0 v0).set 1 v1).set 2 v2).set 3 v3
theorem below_set4 {B : Nat} {V w : World} (h : Below B V w) {q : Nat} (hq : B ≤ q) (v0 v1 v2 v3 : Value) : Below B V (set4 w q v0 v1 v2 v3) := (((h.setCell (p := ⟨q, 0, none⟩) hq v0).setCell (p := ⟨q, 1, none⟩) hq v1).setCell (p := ⟨q, 2, none⟩) hq v2).setCell (p := ⟨q, 3, none⟩) hq v3
theorem not32 {W : World} {q : Nat} {a0 c0 d0 : Int} {A : Option Addr} {n C : Nat} {t : TypeId} (h : Blk W q [.int .u64 a0, .slice A n C, .int .i64 c0, .int .i64 d0] t) : ∀ j x, W.cell? ⟨q, j, none⟩ ≠ some (.int .u32 x) := by
 intro j x e
 rw [h.cell] at e
 match j, e with
 | 0, e => cases e
 | 1, e => cases e
 | 2, e => cases e
 | 3, e => cases e
 | j + 4, e => simp at e
theorem its_set4 {w : World} {A B : Option Addr} {m n C n2 C2 : Nat} {X : List It} {q : Nat} {a0 c0 d0 v0 v2 v3 : Int} {t : TypeId} (h : ItsIn w A m X) (hb : Blk w q [.int .u64 a0, .slice B n C, .int .i64 c0, .int .i64 d0] t) (B2 : Option Addr) : ItsIn (set4 w q (.int .u64 v0) (.slice B2 n2 C2) (.int .i64 v2) (.int .i64 v3)) A m X := by
 have h1 : Blk _ q [.int .u64 v0, .slice B n C, .int .i64 c0, .int .i64 d0] t := hb.set 0 (.int .u64 v0)
 have h2 : Blk _ q [.int .u64 v0, .slice B2 n2 C2, .int .i64 c0, .int .i64 d0] t := h1.set 1 (.slice B2 n2 C2)
 have h3 : Blk _ q [.int .u64 v0, .slice B2 n2 C2, .int .i64 v2, .int .i64 d0] t := h2.set 2 (.int .i64 v2)
 exact (((h.set (not32 hb) 0 _).set (not32 h1) 1 _).set (not32 h2) 2 _).set (not32 h3) 3 _
/-- What a call of read tells. -/
def RdGot (W : World) (zs : List Zn) (zn bn : Int) (e : Ending) (w' : World) : Prop := Below W.heap.size W w' ∧ ((∃ E, recB zs (zn, bn) = some E ∧ ∃ A n C, e = .returned (.tuple #[.agg #[.int .u64 (decS E), .slice A n C, .int .i64 zn, .int .i64 bn], .bool true]) ∧ ItsIn w' A n (decX E) ∧ Fresh W.heap.size A n) ∨ (recB zs (zn, bn) = none ∧ ∃ (S : Int) (A : Option Addr) (n C : Nat) (a b : Int), e = .returned (.tuple #[.agg #[.int .u64 S, .slice A n C, .int .i64 a, .int .i64 b], .bool false])))
section
variable {O : Nat → Prop} {W : World} {p : Nat} {s : Sh} {zs : List Zn}
set_option maxHeartbeats 2000000 in
theorem oread_of (zn bn : Int) (hd : Dv 105 O W p s zs) (hw : Wf s zs) :
  Calls Tryz.prog 36 #[.pointer (some ⟨p, 0, none⟩), .agg #[.int .i64 zn, .int .i64 bn]] W (RdGot W zs zn bn) := by
 have hV0 : Below W.heap.size W ((W.alloc (.cells #[.int .i64 zn, .int .i64 bn] 55)).alloc (.cells #[.int .u64 0, .slice none 0 0, .int .i64 0, .int .i64 0] 94)) ∧ Blk ((W.alloc (.cells #[.int .i64 zn, .int .i64 bn] 55)).alloc (.cells #[.int .u64 0, .slice none 0 0, .int .i64 0, .int .i64 0] 94)) W.heap.size [.int .i64 zn, .int .i64 bn] 55 ∧ Blk ((W.alloc (.cells #[.int .i64 zn, .int .i64 bn] 55)).alloc (.cells #[.int .u64 0, .slice none 0 0, .int .i64 0, .int .i64 0] 94)) (W.heap.size + 1) [.int .u64 0, .slice none 0 0, .int .i64 0, .int .i64 0] 94 := ⟨((Below.refl _ _).alloc (Nat.le_refl _) _).alloc (by simp) _, (Blk.new' rfl rfl).alloc _, Blk.new' (by simp) rfl⟩
 obtain ⟨q, hq⟩ : ∃ q, q = W.heap.size := ⟨_, rfl⟩
 have HQ : Hid (q = W.heap.size) := hq
 cases hB : blkZ zs (zn, bn) with
 | none =>
  have hR : recB zs (zn, bn) = none := by unfold recB; rw [hB]
  obtain ⟨E0, hE0⟩ : ∃ E0, E0 = rdE zs zn bn := ⟨_, rfl⟩
  have hE1 : ¬ E0 = 0 := by
   have := rd_none hB
   simp only at this
   omega
  have HR : Hid (∀ V, Below W.heap.size W V → Calls Tryz.prog 13 #[.pointer (some ⟨p, 0, none⟩), .agg #[.int .i64 zn, .int .i64 bn]] V fun e w' => ∃ h, e = .returned (.tuple #[h, .int .u16 E0]) ∧ Below V.heap.size V w') := fun V hV => by
   rw [hE0]
   refine (read_of zn bn (hd.later hV) hw).mono ?_
   rintro e w' ⟨h, rfl, _, hb⟩
   exact ⟨h, rfl, hb⟩
  have HN : Hid (recB zs (zn, bn) = none) := hR
  clear hd hw hB hR hE0
  go_enter Tryz.func36, Tryz.ntmps36
  go_wp2_with fail
  rw [← hq] at hV0 ⊢
  clear hq
  generalize World.alloc (World.alloc W _) _ = V at hV0 ⊢
  have HV : Hid (Below q W V ∧ Blk V q [.int .i64 zn, .int .i64 bn] 55 ∧ Blk V (q + 1) [.int .u64 0, .slice none 0 0, .int .i64 0, .int .i64 0] 94) := hV0
  clear hV0
  go_wp2_with (go_at_call 13; refine (HR.out _ (by rw [← HQ.out]; exact HV.out.1)).mono ?_; rintro e w1 ⟨h, rfl, hb1⟩; have k1 := HV.out.2.2.below hb1 HV.out.2.2.lt; have d0 : w1.cell? ⟨q + 1, 0, none⟩ = some (.int .u64 0) := k1.cell 0; have d1 : w1.cell? ⟨q + 1, 1, none⟩ = some (.slice none 0 0) := k1.cell 1; have d2 : w1.cell? ⟨q + 1, 2, none⟩ = some (.int .i64 0) := k1.cell 2; have d3 : w1.cell? ⟨q + 1, 3, none⟩ = some (.int .i64 0) := k1.cell 3; have z0 := k1.frozen 0; have z1 := k1.frozen 1; have z2 := k1.frozen 2; have z3 := k1.frozen 3)
  have k5 := blk_set4 k1 (.int .u64 0) (.slice none 0 0) (.int .i64 0) (.int .i64 0)
  have hqV : q ≤ V.heap.size := by have := HV.out.2.1.lt; omega
  have b5 := below_set4 (HV.out.1.trans (hb1.mono hqV)) (q := q + 1) (by omega) (.int .u64 0) (.slice none 0 0) (.int .i64 0) (.int .i64 0)
  exact bodyPost_ret (results_cell_two (p := 4) (u := 5) (ty := 94) rfl _ _ (q + 1) _ _ _ rfl k5 Tryz.underlying94 rfl Tryz.info_found _ rfl) rfl ⟨by rw [← HQ.out]; exact b5, .inr ⟨HN.out, 0, none, 0, 0, 0, 0, rfl⟩⟩
 | some E =>
  obtain ⟨hr1, hr2⟩ := rd_some hB
  simp only at hr1 hr2
  have hlen : E.length ≤ 10000 := by
   obtain ⟨i, j, z, _, hz, hj⟩ := blkZ_some hB
   have := (hw.zone z (List.mem_of_getElem? hz)).2.2.2 E (List.mem_of_getElem? hj)
   have := (power_bounds hw.right.2.2.2.2.1).2
   omega
  have HR : Hid (∀ V, Below W.heap.size W V → Calls Tryz.prog 13 #[.pointer (some ⟨p, 0, none⟩), .agg #[.int .i64 zn, .int .i64 bn]] V fun e w' => ∃ a n c, e = .returned (.tuple #[.slice a n c, .int .u16 0]) ∧ Below V.heap.size V w' ∧ Calls Tryz.prog 73 #[.slice a n c] w' (DecGot w' E)) := fun V hV => by
   refine (read_of zn bn (hd.later hV) hw).mono ?_
   rintro e w' ⟨h, rfl, hk, hb⟩
   rw [hr1]
   rw [hr2] at hk
   obtain ⟨a, c, rfl⟩ := own_slice hk.1
   exact ⟨a, _, c, rfl, hb, decode_of a _ c E w' hk.bin.1 hk.bin.2.1 (own_capN hk.1) (by omega)⟩
  by_cases h0 : decE E = 0
  ·have hR : recB zs (zn, bn) = some E := by unfold recB; rw [hB]; simp only [h0, if_true]
   have HG : Hid (∀ e w' w0, DecGot w0 E e w' → ∃ A n C, e = .returned (.tuple #[.agg #[.int .u64 (decS E), .slice A n C], .int .u16 0]) ∧ ItsIn w' A n (decX E) ∧ Below w0.heap.size w0 w' ∧ Fresh w0.heap.size A n) := by
    rintro e w' w0 ⟨A, n, C, rfl, h1, h2, h3⟩
    rw [h0]
    exact ⟨A, n, C, rfl, h1, h2, h3⟩
   have HN : Hid (recB zs (zn, bn) = some E) := hR
   obtain ⟨S, hS⟩ : ∃ S, S = decS E := ⟨_, rfl⟩
   rw [← hS] at HG
   have HS : Hid (S = decS E) := hS
   clear hd hw hB hR hr1 hr2 h0 hlen hS
   go_enter Tryz.func36, Tryz.ntmps36
   go_wp2_with fail
   rw [← hq] at hV0 ⊢
   clear hq
   generalize World.alloc (World.alloc W _) _ = V at hV0 ⊢
   have HV : Hid (Below q W V ∧ Blk V q [.int .i64 zn, .int .i64 bn] 55 ∧ Blk V (q + 1) [.int .u64 0, .slice none 0 0, .int .i64 0, .int .i64 0] 94) := hV0
   clear hV0
   go_wp2_with (first
    | (go_at_call 13; refine (HR.out _ (by rw [← HQ.out]; exact HV.out.1)).mono ?_; rintro e w1 ⟨a, n, c, rfl, hb1, hdc⟩)
    | (go_at_call 73; refine hdc.mono ?_; rintro e w2 hgot; obtain ⟨A, m, C, rfl, hi, hb2, hf⟩ := HG.out _ _ _ hgot; clear hgot; have hb3 := hb1.trans (hb2.mono hb1.size); have j1 := HV.out.2.1.below hb3 HV.out.2.1.lt; have k1 := HV.out.2.2.below hb3 HV.out.2.2.lt; have a0 : ∀ o, (w2.alloc o).cell? ⟨q, 0, none⟩ = some (.int .i64 zn) := fun o => (j1.alloc o).cell 0; have a1 : ∀ o, (w2.alloc o).cell? ⟨q, 1, none⟩ = some (.int .i64 bn) := fun o => (j1.alloc o).cell 1; have d0 : ∀ o, (w2.alloc o).cell? ⟨q + 1, 0, none⟩ = some (.int .u64 0) := fun o => (k1.alloc o).cell 0; have d1 : ∀ o, (w2.alloc o).cell? ⟨q + 1, 1, none⟩ = some (.slice none 0 0) := fun o => (k1.alloc o).cell 1; have d2 : ∀ o, (w2.alloc o).cell? ⟨q + 1, 2, none⟩ = some (.int .i64 0) := fun o => (k1.alloc o).cell 2; have d3 : ∀ o, (w2.alloc o).cell? ⟨q + 1, 3, none⟩ = some (.int .i64 0) := fun o => (k1.alloc o).cell 3; have z0 := fun o => (k1.alloc o).frozen 0; have z1 := fun o => (k1.alloc o).frozen 1; have z2 := fun o => (k1.alloc o).frozen 2; have z3 := fun o => (k1.alloc o).frozen 3))
   have hqV : q ≤ V.heap.size := by have := HV.out.2.1.lt; omega
   have ba := ((Below.refl w2.heap.size w2).alloc (Nat.le_refl _) (.cells #[.int .u64 S, .slice A m C] 47))
   have k5 := blk_set4 (k1.alloc (.cells #[.int .u64 S, .slice A m C] 47)) (.int .u64 S) (.slice A m C) (.int .i64 zn) (.int .i64 bn)
   have b5 := below_set4 ((HV.out.1.trans (hb3.mono hqV)).trans (ba.mono (by have := hb3.size; omega))) (q := q + 1) (by omega) (.int .u64 S) (.slice A m C) (.int .i64 zn) (.int .i64 bn)
   have hi5 := its_set4 (v0 := S) (n2 := m) (C2 := C) (v2 := zn) (v3 := bn) (hi.below ba) (k1.alloc (.cells #[.int .u64 S, .slice A m C] 47)) A
   rw [HS.out] at *
   exact bodyPost_ret (results_cell_two (p := 4) (u := 5) (ty := 94) rfl _ _ (q + 1) _ _ _ rfl k5 Tryz.underlying94 rfl Tryz.info_found _ rfl) rfl ⟨by rw [← HQ.out]; exact b5, .inl ⟨E, HN.out, A, m, C, rfl, hi5, fun h0 y hy => by have := hf h0 y hy; have := hb1.size; have := HQ.out; omega⟩⟩
  ·have hR : recB zs (zn, bn) = none := by unfold recB; rw [hB]; simp only [if_neg h0]
   obtain ⟨E1, hE1⟩ : ∃ E1, E1 = decE E := ⟨_, rfl⟩
   have hE2 : ¬ E1 = 0 := by rw [hE1]; exact h0
   have HG : Hid (∀ e w' w0, DecGot w0 E e w' → ∃ S A n C, e = .returned (.tuple #[.agg #[.int .u64 S, .slice A n C], .int .u16 E1]) ∧ Below w0.heap.size w0 w') := by
    rintro e w' w0 ⟨A, n, C, rfl, h1, h2, _⟩
    rw [hE1]
    exact ⟨_, A, n, C, rfl, h2⟩
   have HN : Hid (recB zs (zn, bn) = none) := hR
   clear hd hw hB hR hr1 hr2 h0 hlen hE1
   go_enter Tryz.func36, Tryz.ntmps36
   go_wp2_with fail
   rw [← hq] at hV0 ⊢
   clear hq
   generalize World.alloc (World.alloc W _) _ = V at hV0 ⊢
   have HV : Hid (Below q W V ∧ Blk V q [.int .i64 zn, .int .i64 bn] 55 ∧ Blk V (q + 1) [.int .u64 0, .slice none 0 0, .int .i64 0, .int .i64 0] 94) := hV0
   clear hV0
   go_wp2_with (first
    | (go_at_call 13; refine (HR.out _ (by rw [← HQ.out]; exact HV.out.1)).mono ?_; rintro e w1 ⟨a, n, c, rfl, hb1, hdc⟩)
    | (go_at_call 73; refine hdc.mono ?_; rintro e w2 hgot; obtain ⟨S, A, m, C, rfl, hb2⟩ := HG.out _ _ _ hgot; clear hgot; have hb3 := hb1.trans (hb2.mono hb1.size); have j1 := HV.out.2.1.below hb3 HV.out.2.1.lt; have k1 := HV.out.2.2.below hb3 HV.out.2.2.lt; have a0 : ∀ o, (w2.alloc o).cell? ⟨q, 0, none⟩ = some (.int .i64 zn) := fun o => (j1.alloc o).cell 0; have a1 : ∀ o, (w2.alloc o).cell? ⟨q, 1, none⟩ = some (.int .i64 bn) := fun o => (j1.alloc o).cell 1; have d0 : ∀ o, (w2.alloc o).cell? ⟨q + 1, 0, none⟩ = some (.int .u64 0) := fun o => (k1.alloc o).cell 0; have d1 : ∀ o, (w2.alloc o).cell? ⟨q + 1, 1, none⟩ = some (.slice none 0 0) := fun o => (k1.alloc o).cell 1; have d2 : ∀ o, (w2.alloc o).cell? ⟨q + 1, 2, none⟩ = some (.int .i64 0) := fun o => (k1.alloc o).cell 2; have d3 : ∀ o, (w2.alloc o).cell? ⟨q + 1, 3, none⟩ = some (.int .i64 0) := fun o => (k1.alloc o).cell 3; have z0 := fun o => (k1.alloc o).frozen 0; have z1 := fun o => (k1.alloc o).frozen 1; have z2 := fun o => (k1.alloc o).frozen 2; have z3 := fun o => (k1.alloc o).frozen 3))
   have hqV : q ≤ V.heap.size := by have := HV.out.2.1.lt; omega
   have ba := ((Below.refl w2.heap.size w2).alloc (Nat.le_refl _) (.cells #[.int .u64 S, .slice A m C] 47))
   have k5 := blk_set4 (k1.alloc (.cells #[.int .u64 S, .slice A m C] 47)) (.int .u64 S) (.slice A m C) (.int .i64 zn) (.int .i64 bn)
   have b5 := below_set4 ((HV.out.1.trans (hb3.mono hqV)).trans (ba.mono (by have := hb3.size; omega))) (q := q + 1) (by omega) (.int .u64 S) (.slice A m C) (.int .i64 zn) (.int .i64 bn)
   exact bodyPost_ret (results_cell_two (p := 4) (u := 5) (ty := 94) rfl _ _ (q + 1) _ _ _ rfl k5 Tryz.underlying94 rfl Tryz.info_found _ rfl) rfl ⟨by rw [← HQ.out]; exact b5, .inr ⟨HN.out, S, A, m, C, zn, bn, by simp [hE2]⟩⟩
end
end
end Go.Proofs.YtcdnjeiamihhbabGreat
