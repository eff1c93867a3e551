/- P5 -/
import Derived.Lib.SliceRun
import Derived.Test.YtcdnjeiamihhbabGreatP4
set_option linter.unusedVariables false
set_option maxRecDepth 4000
namespace Go.Proofs.YtcdnjeiamihhbabGreat
open Go.RowKit Go.Shelf
/-- The loss behind j questions; how much fits of block j; what is left behind j blocks. -/
def kst (k t : Int) : Nat → Int × Int
 | 0 => (k, t)
 | j + 1 => keptK (kst k t j).1 (kst k t j).2
def kFit (us : List (List Int)) (k t : Int) (j : Nat) : Nat := keptN (kst k t j).1 (kst k t j).2 (us.getD j []).length
def kRes (us : List (List Int)) (k t : Int) (j : Nat) : List (List Int) := (List.range j).map (fun i => tornL (us.getD i []) (kFit us k t i))
theorem kRes_succ (us : List (List Int)) (k t : Int) (j : Nat) : kRes us k t (j + 1) = kRes us k t j ++ [tornL (us.getD j []) (kFit us k t j)] := by simp [kRes, List.range_succ]
theorem kst_le (k t : Int) : ∀ j, (kst k t j).1 ≤ k
 | 0 => Int.le_refl _
 | j + 1 => by
  have := kst_le k t j
  simp only [kst, keptK]
  split <;> simp <;> omega
theorem keptN_le (k t : Int) (n : Nat) : keptN k t n ≤ n := by unfold keptN; split <;> omega
theorem kst_low (k t : Int) : ∀ j, j ≤ k.toNat → kst k t j = (k - j, t)
 | 0, _ => by simp [kst]
 | j + 1, h => by
  rw [kst, kst_low k t j (by omega)]
  have : 0 < k - (j : Int) := by omega
  show keptK (k - j) t = _
  rw [keptK, if_pos this]
  congr 1
  omega
theorem kst_next (k t : Int) : (kst k t (k.toNat + 1)).1 ≤ 0 ∧ (kst k t (k.toNat + 1)).2 = 0 := by
 rw [kst, kst_low k t k.toNat (Nat.le_refl _)]
 have : ¬ 0 < k - (k.toNat : Int) := by omega
 show (keptK (k - k.toNat) t).1 ≤ 0 ∧ (keptK (k - k.toNat) t).2 = 0
 rw [keptK, if_neg this]
 exact ⟨by show k - (k.toNat : Int) ≤ 0; omega, rfl⟩
/-- What a crash leaves of the blocks that are not durable. -/
def keptB (us : List (List Int)) (k t : Int) : List (List Int) :=
 us.take k.toNat ++ (match us[k.toNat]? with | some D => if 0 < t then [tornL D (min t.toNat D.length)] else [] | none => [])
def crashB (bs : List (List Int)) (dn : Nat) (k t : Int) : List (List Int) := bs.take dn ++ keptB (bs.drop dn) k t
theorem kFit_low {us : List (List Int)} {k t : Int} {j : Nat} (h : j < k.toNat) : kFit us k t j = (us.getD j []).length := by
 rw [kFit, kst_low k t j (by omega)]
 have : 0 < k - (j : Int) := by omega
 show keptN (k - j) t _ = _
 rw [keptN, if_pos this]
theorem kFit_mid (us : List (List Int)) (k t : Int) : kFit us k t k.toNat = min t.toNat (us.getD k.toNat []).length := by
 rw [kFit, kst_low k t k.toNat (Nat.le_refl _)]
 have : ¬ 0 < k - (k.toNat : Int) := by omega
 show keptN (k - k.toNat) t _ = _
 rw [keptN, if_neg this]
theorem kFit_next (us : List (List Int)) (k t : Int) : kFit us k t (k.toNat + 1) = 0 := by
 have h := kst_next k t
 have : ¬ 0 < (kst k t (k.toNat + 1)).1 := by omega
 simp [kFit, keptN, this, h.2]
theorem getD_take_range (us : List (List Int)) : ∀ j, j ≤ us.length → (List.range j).map (fun i => us.getD i []) = us.take j
 | 0, _ => by simp
 | j + 1, h => by
  rw [List.range_succ, List.map_append, getD_take_range us j (by omega), take_snoc (x := us.getD j []) (by simp [List.getD, show j < us.length by omega])]
  rfl
theorem kRes_low {us : List (List Int)} {k t : Int} : ∀ {j : Nat}, j ≤ k.toNat → j ≤ us.length → kRes us k t j = us.take j := by
 intro j h1 h2
 rw [← getD_take_range us j h2, kRes]
 apply List.map_congr_left
 intro i hi
 rw [kFit_low (by have := List.mem_range.1 hi; omega), tornL_all]
/-- Where the iterator stops, that is what is left. -/
theorem kRes_eq {us : List (List Int)} {k t : Int} {j : Nat} (hl : ∀ D ∈ us, 0 < D.length) (hj : j ≤ us.length) (hp : ∀ i, i < j → 0 < kFit us k t i) (he : j = us.length ∨ (j < us.length ∧ kFit us k t j = 0)) : kRes us k t j = keptB us k t := by
 have hpos : ∀ i, i < us.length → 0 < (us.getD i []).length := by
  intro i hi
  have : us.getD i [] = us[i] := by simp [List.getD, hi]
  rw [this]; exact hl _ (List.getElem_mem hi)
 rcases Nat.lt_trichotomy j k.toNat with h | h | h
 ·-- it has come to its end
  have hj' : j = us.length := by
   rcases he with he | ⟨he1, he2⟩
   ·exact he
   ·rw [kFit_low h] at he2
    have := hpos j he1
    omega
  rw [kRes_low (by omega) hj, keptB, List.getElem?_eq_none (by omega)]
  simp [hj']
  rw [List.take_of_length_le (by omega)]
 ·rw [kRes_low (by omega) hj, keptB, ← h]
  rcases he with he | ⟨he1, he2⟩
  ·rw [List.getElem?_eq_none (by omega)]; simp
  ·rw [h, kFit_mid] at he2
   have := hpos j he1
   rw [h] at this
   have ht : ¬ 0 < t := by omega
   rw [List.getElem?_eq_getElem he1]
   simp [ht]
 ·have hj1 : j = k.toNat + 1 := by
   rcases Nat.lt_or_ge (k.toNat + 1) j with h' | h'
   ·have := hp _ h'
    rw [kFit_next] at this; omega
   ·omega
  subst hj1
  rw [kRes_succ, kRes_low (Nat.le_refl _) (by omega), keptB]
  have h0 := hp k.toNat (by omega)
  rw [kFit_mid] at h0 ⊢
  have ht : 0 < t := by omega
  rw [List.getElem?_eq_getElem (by omega)]
  have e : us.getD k.toNat [] = us[k.toNat] := by simp [List.getD, show k.toNat < us.length by omega]
  simp only [e, ht, if_true]
/-- An array of headers, all of it. -/
def Arr (W : World) (a : Option Addr) (c : Nat) (L : List Value) : Prop := (a = none ∧ c = 0 ∧ L = []) ∨ ∃ r, a = some ⟨r, 0, none⟩ ∧ Blk W r L 51 ∧ L.length = c ∧ c ≤ maxLen
theorem RowAt.arr {O : Nat → Prop} {W : World} {a : Option Addr} {n c : Nat} {bs : List (List Int)} (h : RowAt O W (.slice a n c) bs) : ∃ vs rest, Arr W a c (vs ++ rest) ∧ BsAt O W vs bs ∧ vs.length = n ∧ n = bs.length ∧ n ≤ c := by
 obtain ⟨vs, h1, h2, h3, h4⟩ := h
 obtain ⟨h5, h6⟩ := own_cap h1
 have hv : vs.length = n := by rw [h3.1, h6]
 rcases h1.2 with ⟨hv', hn⟩ | ⟨g, cap, cur, hv', hb, hg, hc, hcm, hsz, htk⟩
 ·cases hv'
  have : vs = [] := List.length_eq_zero_iff.1 hv
  exact ⟨vs, [], .inl ⟨rfl, rfl, by simp [this]⟩, h3, hv, h6, h5⟩
 ·cases hv'
  refine ⟨vs, cur.toList.drop bs.length, .inr ⟨g, rfl, ?_, ?_, hcm⟩, h3, hv, rfl, h5⟩
  ·have : vs ++ cur.toList.drop bs.length = cur.toList := by
    rw [← htk]; simp
   rw [this]
   exact hg
  ·simp [hv, hsz]; omega
theorem Arr.row {O : Nat → Prop} {W : World} {a : Option Addr} {c : Nat} {hs rest : List Value} {bs : List (List Int)} (h : Arr W a c (hs ++ rest)) (hb : BsAt O W hs bs) (hl : bs.length ≤ 100000) (hO : ∀ r, a = some r → O r.block) : RowAt O W (.slice a bs.length c) bs := by
 refine ⟨hs, ⟨by rw [hb.1]; omega, ?_⟩, ?_, hb, hl⟩
 ·rcases h with ⟨rfl, rfl, hL⟩ | ⟨r, rfl, hr, hlen, hcm⟩
  ·have : hs = [] := by simp at hL; exact hL.1
   have : bs.length = 0 := by rw [← hb.1, this]; rfl
   exact .inl ⟨by rw [this], this⟩
  ·refine .inr ⟨r, c, _, rfl, Nat.zero_le _, hr, ?_, hcm, by simp at hlen ⊢; exact hlen, ?_⟩
   ·simp at hlen; have := hb.1; omega
   ·simp [← hb.1]
 ·intro r hr
  cases a with
  | none => cases hr
  | some x => cases hr; exact hO _ rfl
section
attribute [local go_sem] Oper.semAt_some
def backA (a : Option Addr) (c k : Nat) : Option Addr := if c = k then a else a.map (·.add k)
def blkOf (a : Option Addr) : Nat → Prop := fun x => ∃ ad, a = some ad ∧ ad.block = x
structure CrSt (w : World) (O : Nat → Prop) (q : Nat) (a : Option Addr) (n c dn : Nat) (vs rest : List Value) (bs : List (List Int)) (k t : Int) (j s : Nat) (W : World) : Prop where
 out : Out (blkOf a) w W
 z : Blk W q [.slice a n c, .int .i64 dn] 102
 r : Blk W (q + 2) [.slice none 0 0, .int .i64 0] 102
 g : Blk W (q + 3) [.slice a (dn + j) c] 100
 l : Blk W (q + 4) [.int .i64 (kst k t s).1, .int .i64 (kst k t s).2] 114
 b1 : Blk W (q + 5) [.slice (backA a c dn) (n - dn) (c - dn)] 100
 b2 : Blk W (q + 6) [.func (.func 145) #[] #[.pointer (some ⟨q + 4, 0, none⟩)]] 107
 row : ∃ hs, hs.length = dn + j ∧ Arr W a c (hs ++ (vs.drop (dn + j) ++ rest)) ∧ BsAt O W hs (bs.take dn ++ kRes (bs.drop dn) k t j)
 old : BsAt O W vs bs
section
variable {w : World} {O : Nat → Prop} {q : Nat} {a : Option Addr} {n c dn : Nat} {vs rest : List Value} {bs : List (List Int)} {k t : Int} {j s : Nat} {W W' : World}
theorem Arr.out {S : Nat → Prop} {L : List Value} (h : Arr W a c L) (ho : Out S W W') (hS : ∀ x, S x → ¬ blkOf a x) : Arr W' a c L := by
 rcases h with h | ⟨r, rfl, hr, h⟩
 ·exact .inl h
 ·exact .inr ⟨r, rfl, ho.blk hr (fun e => hS r e ⟨_, rfl, rfl⟩), h⟩
theorem CrSt.under (h : CrSt w O q a n c dn vs rest bs k t j s W) (hb : Below W.heap.size W W') : CrSt w O q a n c dn vs rest bs k t j s W' := by
 have ho := below_out Non hb
 obtain ⟨hs, h1, h2, h3⟩ := h.row
 exact ⟨h.out.under hb, ho.blk h.z id, ho.blk h.r id, ho.blk h.g id, ho.blk h.l id, ho.blk h.b1 id, ho.blk h.b2 id, ⟨hs, h1, h2.out ho (fun _ e => e.elim), h3.out ho (fun _ _ _ _ => id)⟩, h.old.out ho (fun _ _ _ _ => id)⟩
theorem CrSt.calm {l : Nat} (h : CrSt w O q a n c dn vs rest bs k t j s W) (hc : Calm l W W') (hl : w.heap.size ≤ l) : CrSt w O q a n c dn vs rest bs k t j s W' := by
 obtain ⟨hs, h1, h2, h3⟩ := h.row
 refine ⟨hc.out h.out hl, hc.blk h.z, hc.blk h.r, hc.blk h.g, hc.blk h.l, hc.blk h.b1, hc.blk h.b2, ⟨hs, h1, ?_, hc.bs h3⟩, hc.bs h.old⟩
 rcases h2 with h2 | ⟨r, rfl, hr, h2⟩
 ·exact .inl h2
 ·exact .inr ⟨r, rfl, hc.blk hr, h2⟩
/-- The loss is written. -/
theorem bs_cell {V : World} {g : Nat} {L : List Value} {t : TypeId} (hg : Blk V g L t) (h2 : t ≠ 5) {S : Nat → Prop} {V' : World} (ho : Out S V V') (hS : ∀ x, S x → x = g) {us : List Value} {bs : List (List Int)} (h : BsAt O V us bs) : BsAt O V' us bs :=
 h.out ho (fun c cur _ hc e => by
  have := hS c e
  subst this
  have : some (Obj.cells L.toArray t (0, 0)) = some (Obj.cells cur 5 (0, 0)) := (show V.heap[c]? = _ from hg).symm.trans hc
  simp at this
  exact h2 this.2)
theorem arr_ne {V : World} {g : Nat} {L L' : List Value} {t : TypeId} (hg : Blk V g L t) (ht : t ≠ 51) (h : Arr V a c L') : ¬ blkOf a g := by
 rintro ⟨ad, rfl, e⟩
 rcases h with ⟨h, _⟩ | ⟨r, h, hr, _⟩
 ·cases h
 ·cases h
  subst e
  exact blk_ne hg hr ht rfl
theorem CrSt.loss (h : CrSt w O q a n c dn vs rest bs k t j s W) (hw : w.heap.size ≤ q) (ho : Out (fun x => x = q + 4) W W') (hl : Blk W' (q + 4) [.int .i64 (kst k t (s + 1)).1, .int .i64 (kst k t (s + 1)).2] 114) : CrSt w O q a n c dn vs rest bs k t j (s + 1) W' := by
 obtain ⟨hs, h1, h2, h3⟩ := h.row
 refine ⟨h.out.trans ho (fun x e => .inr (by omega)), ho.blk h.z (by omega), ho.blk h.r (by omega), ho.blk h.g (by omega), hl, ho.blk h.b1 (by omega), ho.blk h.b2 (by omega), ⟨hs, h1, h2.out ho (fun x e => ?_), bs_cell h.l (by decide) ho (fun _ e => e) h3⟩, bs_cell h.l (by decide) ho (fun _ e => e) h.old⟩
 subst e
 exact arr_ne h.l (by decide) h2
theorem set_mid {α : Type} (hs : List α) (x v : α) (ds : List α) {m : Nat} (hm : hs.length = m) : (hs ++ v :: ds).set m x = (hs ++ [x]) ++ ds := by
 subst hm
 rw [List.set_append_right _ _ (Nat.le_refl _)]
 simp
/-- One block more. -/
theorem CrSt.app {R : Loop} {l : Nat} {D : List Int} {x : Value} (h : CrSt w O q a n c dn vs rest bs k t j s W) (hw : w.heap.size ≤ q) (hbk : Book R l W) (hvs : vs.length = n) (hbs : bs.length = n) (hj : dn + j < n) (hnc : n ≤ c) (hD : (bs.drop dn)[j]? = some D)
  (hx : BkAt O W x (tornL D (kFit (bs.drop dn) k t j))) (h1 : x.oneCell' = true) :
  ∃ r, a = some ⟨r, 0, none⟩ ∧ Blk (W.alloc (.cells #[x] 51)) (q + 3) [.slice a (dn + j) c] 100 ∧
   (Builtin.append_ #[100, 100] 100 #[.slice a (dn + j) c, .slice (some ⟨W.heap.size, 0, none⟩) 1 1]).run Tryz.prog (W.alloc (.cells #[x] 51)) = .ok (.slice a (dn + (j + 1)) c) ((W.alloc (.cells #[x] 51)).setCell ⟨r, dn + j, none⟩ x) ∧
   (((W.alloc (.cells #[x] 51)).setCell ⟨r, dn + j, none⟩ x).cell? ⟨q + 3, 0, none⟩ = some (.slice a (dn + j) c)) ∧ (((W.alloc (.cells #[x] 51)).setCell ⟨r, dn + j, none⟩ x).frozen? ⟨q + 3, 0, none⟩ = false) ∧
   CrSt w O q a n c dn vs rest bs k t (j + 1) s ((((W.alloc (.cells #[x] 51)).setCell ⟨r, dn + j, none⟩ x)).setCell ⟨q + 3, 0, none⟩ (.slice a (dn + (j + 1)) c)) ∧
   Book R l ((((W.alloc (.cells #[x] 51)).setCell ⟨r, dn + j, none⟩ x)).setCell ⟨q + 3, 0, none⟩ (.slice a (dn + (j + 1)) c)) := by
 have h' := h.under (((Below.refl _ _).alloc (Nat.le_refl _) (.cells #[x] 51)) : Below W.heap.size W (W.alloc (.cells #[x] 51)))
 have hx' : BkAt O (W.alloc (.cells #[x] 51)) x _ := hx.out (below_out Non ((Below.refl _ _).alloc (Nat.le_refl _) _)) (fun _ _ _ _ => id)
 have hc0 : (W.alloc (.cells #[x] 51)).cell? ⟨W.heap.size, 0, none⟩ = some x := by rw [World.cell?_alloc_mark]; rfl
 have hb' := hbk.below ((Below.refl _ _).alloc (Nat.le_refl _) (.cells #[x] 51))
 generalize hV : W.alloc (.cells #[x] 51) = V at *
 obtain ⟨hs, e1, e2, e3⟩ := h'.row
 obtain ⟨v0, hv0⟩ : ∃ v, vs.drop (dn + j) = v :: vs.drop (dn + (j + 1)) := ⟨vs[dn + j]'(by omega), by rw [List.drop_eq_getElem_cons (by omega)]; rfl⟩
 rcases e2 with ⟨_, hc, _⟩ | ⟨r, rfl, hr, hlen, hcm⟩
 ·omega
 have hrq : r ≠ q + 3 := blk_ne hr h'.g (by decide)
 obtain ⟨i0, hi, hz0, hz1, hz2⟩ := info_parts Tryz.zero_bytes
 have hrun := run_append_room_cells (P := Tryz.prog) V 100 100 51 i0 Tryz.underlying100 hi r 0 (dn + j) c ⟨W.heap.size, 0, none⟩ 1 1 [x] (by rw [hz1]; rfl) (by
  intro i u hi
  match i, hi with
  | 0, hi =>
   simp at hi
   subst hi
   exact hc0) (by intro u hu; simp at hu; subst hu; exact h1) (by omega) (by
  intro i hi
  have : i = 0 := by simpa using hi
  subst this
  rw [hz1, hr.cell]
  simp
  simp [hv0] at hlen
  omega) (by intro i hi; exact hr.frozen _)
 rw [hz1] at hrun
 have eset : V.setCells r (0 + (dn + j) * 1) [x] = V.setCell ⟨r, dn + j, none⟩ x := by simp [World.setCells]
 rw [eset] at hrun
 have hr2 := hr.set (dn + j) x
 rw [hv0, List.cons_append, set_mid hs x v0 _ e1] at hr2
 have g2 := h'.g.set_other (a := ⟨r, dn + j, none⟩) (fun e => hrq e.symm) x
 have hr3 := hr2.set_other (a := ⟨q + 3, 0, none⟩) hrq (.slice (some ⟨r, 0, none⟩) (dn + (j + 1)) c)
 have ho2 : Out (fun y => y = r) V (V.setCell ⟨r, dn + j, none⟩ x) := out_cell _ _ _ _
 have ho3 : Out (fun y => y = q + 3) (V.setCell ⟨r, dn + j, none⟩ x) ((V.setCell ⟨r, dn + j, none⟩ x).setCell ⟨q + 3, 0, none⟩ (.slice (some ⟨r, 0, none⟩) (dn + (j + 1)) c)) := out_cell _ _ _ _
 have keep : ∀ {g : Nat} {L : List Value} {ty : TypeId}, Blk V g L ty → ty ≠ 51 → g ≠ q + 3 → Blk ((V.setCell ⟨r, dn + j, none⟩ x).setCell ⟨q + 3, 0, none⟩ (.slice (some ⟨r, 0, none⟩) (dn + (j + 1)) c)) g L ty := fun hb ht hn => ho3.blk (ho2.blk hb (blk_ne hb hr ht)) hn
 have kb : ∀ {us : List Value} {cs : List (List Int)}, BsAt O V us cs → BsAt O ((V.setCell ⟨r, dn + j, none⟩ x).setCell ⟨q + 3, 0, none⟩ (.slice (some ⟨r, 0, none⟩) (dn + (j + 1)) c)) us cs := fun hb => bs_cell g2 (by decide) ho3 (fun _ e => e) (bs_cell hr (by decide) ho2 (fun _ e => e) hb)
 have gd : (bs.drop dn).getD j [] = D := by simp [List.getD, hD]
 refine ⟨r, rfl, h'.g, hrun, g2.cell 0, g2.frozen 0, ⟨?_, keep h'.z (by decide) (by omega), keep h'.r (by decide) (by omega), g2.set 0 _, keep h'.l (by decide) (by omega), keep h'.b1 (by decide) (by omega), keep h'.b2 (by decide) (by omega), ⟨hs ++ [x], by simp [e1]; omega, .inr ⟨r, rfl, hr3, ?_, hcm⟩, ?_⟩, kb h'.old⟩, book_cell (book_cell hb' hr _ _) g2 _ _⟩
 ·exact (h'.out.trans ho2 (fun y e => .inl ⟨_, rfl, e.symm⟩)).trans ho3 (fun y e => .inr (by omega))
 ·rw [← hlen, hv0]; simp
 ·rw [kRes_succ, gd, ← List.append_assoc]
  exact kb (e3.snoc hx')
end
theorem Tryz.zeroValue_bytes : ∀ w, (zeroValue 51).run Tryz.prog w = .ok (.slice none 0 0) w := fun _ => by kernel_rfl
/-- What is cleared behind a row's front. -/
theorem clear_arr {W : World} {a : Option Addr} {n c m : Nat} {L : List Value} (h : Arr W a c L) (hm : m ≤ n) (hn : n ≤ c) :
  ∃ W', (∀ ty, (Builtin.clear_ #[100] ty #[.slice (backA a c m) (n - m) (c - m)]).run Tryz.prog W = .ok (.tuple #[]) W') ∧ Out (blkOf a) W W' ∧ ∃ L', Arr W' a c (L.take m ++ L') := by
 rcases Nat.eq_zero_or_pos (n - m) with h0 | h0
 ·refine ⟨W, fun ty => ?_, Out.refl _ _, L.drop m, by rw [List.take_append_drop]; exact h⟩
  rw [h0]
  cases backA a c m <;> simp [Builtin.clear_, run_underlying Tryz.underlying100]
 ·rcases h with ⟨_, hc, _⟩ | ⟨r, rfl, hr, hl, hcm⟩
  ·omega
  ·have hb : backA (some ⟨r, 0, none⟩) c m = some ⟨r, m, none⟩ := by
    unfold backA
    rw [if_neg (by omega)]
    show some ((⟨r, 0, none⟩ : Addr).add m) = _
    rw [Addr.add_mid, Nat.zero_add]
   rw [hb]
   refine ⟨_, fun ty => Lib.run_clear_slice W 100 51 ty (.slice none 0 0) Tryz.underlying100 Tryz.zeroValue_bytes rfl rfl r m (n - m) (c - m) h0 (fun j hj => ?_) (fun j _ => hr.frozen _), ?_, ?_⟩
   ·rw [hr.cell, List.getElem?_eq_getElem (by omega)]; rfl
   ·have : ∀ (xs : List Value) (o : Nat) (V : World), Out (blkOf (some ⟨r, 0, none⟩)) W V → Out (blkOf (some ⟨r, 0, none⟩)) W (V.setCells r o xs) := by
     intro xs
     induction xs with
     | nil => intro o V h; exact h
     | cons x xs ih => intro o V h; exact ih (o + 1) _ (h.setCell (p := ⟨r, o, none⟩) (.inl ⟨_, rfl, rfl⟩) x)
    exact this _ _ _ (Out.refl _ _)
   ·have hs := Blk.setCells (List.replicate (n - m) (Value.slice none 0 0)) m W L hr (by simp; omega)
    refine ⟨List.replicate (n - m) (Value.slice none 0 0) ++ L.drop (m + (n - m)), .inr ⟨r, rfl, ?_, ?_, hcm⟩⟩
    ·rw [splice, List.length_replicate] at hs; exact hs
    ·simp; omega
theorem BIn.other {W W' : World} {S : Nat → Prop} {a : Option Addr} {n : Nat} {D : List Int} (h : BIn W a n D) (ho : Out S W W') (hS : ∀ x, S x → ∀ i z, W.cell? ⟨x, i, none⟩ ≠ some (.int .u8 z)) : BIn W' a n D := by
 obtain ⟨h1, h2, h3, h4⟩ := h
 refine ⟨h1, h2, h3, ?_⟩
 rcases h4 with h4 | ⟨b, off, ha, hc⟩
 ·exact .inl h4
 ·exact .inr ⟨b, off, ha, fun i hi => ho.cell (hc i hi) (fun e => hS b e _ _ (hc i hi))⟩
end
end Go.Proofs.YtcdnjeiamihhbabGreat
