/- Texts of this seat, one behind the other: ZCrashM, ZCrash, ZCrashed, ZDev. -/
import Derived.Test.YteokhkoaieibmaaJ3
import Derived.Lib.SliceRun
/- What a crash leaves of a zone: the mathematics; the memory of one call of crashed. -/
namespace Go.Proofs.Yteokhkoaieibmaa
open Go.RowKit Go.Shelf
set_option linter.unusedVariables false
set_option maxRecDepth 4000

/-- The loss behind j questions; how much fits of block j; what is left behind j blocks. -/
def kst (k t : Int) : Nat → Int × Int
  | 0 => (k, t)
  | j + 1 => keptK (kst k t j).1 (kst k t j).2
def kFit (us : List (List Int)) (k t : Int) (j : Nat) : Nat := keptN (kst k t j).1 (kst k t j).2 (us.getD j []).length
def kRes (us : List (List Int)) (k t : Int) (j : Nat) : List (List Int) := (List.range j).map (fun i => tornL (us.getD i []) (kFit us k t i))
theorem kRes_succ (us : List (List Int)) (k t : Int) (j : Nat) : kRes us k t (j + 1) = kRes us k t j ++ [tornL (us.getD j []) (kFit us k t j)] := by simp [kRes, List.range_succ]
theorem kRes_length (us : List (List Int)) (k t : Int) (j : Nat) : (kRes us k t j).length = j := by simp [kRes]
theorem kst_le (k t : Int) : ∀ j, (kst k t j).1 ≤ k
  | 0 => Int.le_refl _
  | j + 1 => by
    have := kst_le k t j
    simp only [kst, keptK]
    split <;> simp <;> omega
theorem keptN_le (k t : Int) (n : Nat) : keptN k t n ≤ n := by unfold keptN; split <;> omega
theorem kst_low (k t : Int) : ∀ j, j ≤ k.toNat → kst k t j = (k - j, t)
  | 0, _ => by simp [kst]
  | j + 1, h => by
    rw [kst, kst_low k t j (by omega)]
    have : 0 < k - (j : Int) := by omega
    show keptK (k - j) t = _
    rw [keptK, if_pos this]
    congr 1
    omega
theorem kst_next (k t : Int) : (kst k t (k.toNat + 1)).1 ≤ 0 ∧ (kst k t (k.toNat + 1)).2 = 0 := by
  rw [kst, kst_low k t k.toNat (Nat.le_refl _)]
  have : ¬ 0 < k - (k.toNat : Int) := by omega
  show (keptK (k - k.toNat) t).1 ≤ 0 ∧ (keptK (k - k.toNat) t).2 = 0
  rw [keptK, if_neg this]
  exact ⟨by show k - (k.toNat : Int) ≤ 0; omega, rfl⟩
/-- What a crash leaves of the blocks that are not durable. -/
def keptB (us : List (List Int)) (k t : Int) : List (List Int) :=
  us.take k.toNat ++ (match us[k.toNat]? with | some D => if 0 < t then [tornL D (min t.toNat D.length)] else [] | none => [])
def crashB (bs : List (List Int)) (dn : Nat) (k t : Int) : List (List Int) := bs.take dn ++ keptB (bs.drop dn) k t
theorem kFit_low {us : List (List Int)} {k t : Int} {j : Nat} (h : j < k.toNat) : kFit us k t j = (us.getD j []).length := by
  rw [kFit, kst_low k t j (by omega)]
  have : 0 < k - (j : Int) := by omega
  show keptN (k - j) t _ = _
  rw [keptN, if_pos this]
theorem kFit_mid (us : List (List Int)) (k t : Int) : kFit us k t k.toNat = min t.toNat (us.getD k.toNat []).length := by
  rw [kFit, kst_low k t k.toNat (Nat.le_refl _)]
  have : ¬ 0 < k - (k.toNat : Int) := by omega
  show keptN (k - k.toNat) t _ = _
  rw [keptN, if_neg this]
theorem kFit_next (us : List (List Int)) (k t : Int) : kFit us k t (k.toNat + 1) = 0 := by
  have h := kst_next k t
  have : ¬ 0 < (kst k t (k.toNat + 1)).1 := by omega
  simp [kFit, keptN, this, h.2]
theorem getD_take_range (us : List (List Int)) : ∀ j, j ≤ us.length → (List.range j).map (fun i => us.getD i []) = us.take j
  | 0, _ => by simp
  | j + 1, h => by
    rw [List.range_succ, List.map_append, getD_take_range us j (by omega), take_snoc (x := us.getD j []) (by simp [List.getD, show j < us.length by omega])]
    rfl
theorem kRes_low {us : List (List Int)} {k t : Int} : ∀ {j : Nat}, j ≤ k.toNat → j ≤ us.length → kRes us k t j = us.take j := by
  intro j h1 h2
  rw [← getD_take_range us j h2, kRes]
  apply List.map_congr_left
  intro i hi
  rw [kFit_low (by have := List.mem_range.1 hi; omega), tornL_all]
/-- Where the iterator stops, that is what is left. -/
theorem kRes_eq {us : List (List Int)} {k t : Int} {j : Nat} (hl : ∀ D ∈ us, 0 < D.length) (hj : j ≤ us.length) (hp : ∀ i, i < j → 0 < kFit us k t i) (he : j = us.length ∨ (j < us.length ∧ kFit us k t j = 0)) : kRes us k t j = keptB us k t := by
  have hpos : ∀ i, i < us.length → 0 < (us.getD i []).length := by
    intro i hi
    have : us.getD i [] = us[i] := by simp [List.getD, hi]
    rw [this]; exact hl _ (List.getElem_mem hi)
  rcases Nat.lt_trichotomy j k.toNat with h | h | h
  · -- it has come to its end
    have hj' : j = us.length := by
      rcases he with he | ⟨he1, he2⟩
      · exact he
      · rw [kFit_low h] at he2
        have := hpos j he1
        omega
    rw [kRes_low (by omega) hj, keptB, List.getElem?_eq_none (by omega)]
    simp [hj']
    rw [List.take_of_length_le (by omega)]
  · rw [kRes_low (by omega) hj, keptB, ← h]
    rcases he with he | ⟨he1, he2⟩
    · rw [List.getElem?_eq_none (by omega)]; simp
    · rw [h, kFit_mid] at he2
      have := hpos j he1
      rw [h] at this
      have ht : ¬ 0 < t := by omega
      rw [List.getElem?_eq_getElem he1]
      simp [ht]
  · have hj1 : j = k.toNat + 1 := by
      rcases Nat.lt_or_ge (k.toNat + 1) j with h' | h'
      · have := hp _ h'
        rw [kFit_next] at this; omega
      · omega
    subst hj1
    rw [kRes_succ, kRes_low (Nat.le_refl _) (by omega), keptB]
    have h0 := hp k.toNat (by omega)
    rw [kFit_mid] at h0 ⊢
    have ht : 0 < t := by omega
    rw [List.getElem?_eq_getElem (by omega)]
    have e : us.getD k.toNat [] = us[k.toNat] := by simp [List.getD, show k.toNat < us.length by omega]
    simp only [e, ht, if_true]

/-- An array of headers, all of it. -/
def Arr (W : World) (a : Option Addr) (c : Nat) (L : List Value) : Prop := (a = none ∧ c = 0 ∧ L = []) ∨ ∃ r, a = some ⟨r, 0, none⟩ ∧ Blk W r L 39 ∧ L.length = c ∧ c ≤ maxLen
theorem Arr.len {W : World} {a : Option Addr} {c : Nat} {L : List Value} (h : Arr W a c L) : L.length = c := by
  rcases h with ⟨_, rfl, rfl⟩ | ⟨r, _, _, h, _⟩
  · rfl
  · exact h
theorem RowAt.arr {O : Nat → Prop} {W : World} {a : Option Addr} {n c : Nat} {bs : List (List Int)} (h : RowAt O W (.slice a n c) bs) : ∃ vs rest, Arr W a c (vs ++ rest) ∧ BsAt O W vs bs ∧ vs.length = n ∧ n = bs.length ∧ n ≤ c := by
  obtain ⟨vs, h1, h2, h3, h4⟩ := h
  obtain ⟨h5, h6⟩ := own_cap h1
  have hv : vs.length = n := by rw [h3.1, h6]
  rcases h1.2 with ⟨hv', hn⟩ | ⟨g, cap, cur, hv', hb, hg, hc, hcm, hsz, htk⟩
  · cases hv'
    have : vs = [] := List.length_eq_zero_iff.1 hv
    exact ⟨vs, [], .inl ⟨rfl, rfl, by simp [this]⟩, h3, hv, h6, h5⟩
  · cases hv'
    refine ⟨vs, cur.toList.drop bs.length, .inr ⟨g, rfl, ?_, ?_, hcm⟩, h3, hv, rfl, h5⟩
    · have : vs ++ cur.toList.drop bs.length = cur.toList := by
        rw [← htk]; simp
      rw [this]
      exact hg
    · simp [hv, hsz]; omega
theorem Arr.row {O : Nat → Prop} {W : World} {a : Option Addr} {c : Nat} {hs rest : List Value} {bs : List (List Int)} (h : Arr W a c (hs ++ rest)) (hb : BsAt O W hs bs) (hl : bs.length ≤ 100000) (hO : ∀ r, a = some r → O r.block) : RowAt O W (.slice a bs.length c) bs := by
  refine ⟨hs, ⟨by rw [hb.1]; omega, ?_⟩, ?_, hb, hl⟩
  · rcases h with ⟨rfl, rfl, hL⟩ | ⟨r, rfl, hr, hlen, hcm⟩
    · have : hs = [] := by simp at hL; exact hL.1
      have : bs.length = 0 := by rw [← hb.1, this]; rfl
      exact .inl ⟨by rw [this], this⟩
    · refine .inr ⟨r, c, _, rfl, Nat.zero_le _, hr, ?_, hcm, by simp at hlen ⊢; exact hlen, ?_⟩
      · simp at hlen; have := hb.1; omega
      · simp [← hb.1]
  · intro r hr
    cases a with
    | none => cases hr
    | some x => cases hr; exact hO _ rfl
end Go.Proofs.Yteokhkoaieibmaa

/- What one call of crashed does. -/
namespace Go.Proofs.Yteokhkoaieibmaa
open Go.RowKit Go.Shelf
set_option linter.unusedVariables false
set_option maxRecDepth 4000
attribute [local go_sem] Oper.semAt_some

def backA (a : Option Addr) (c k : Nat) : Option Addr := if c = k then a else a.map (·.add k)
def blkOf (a : Option Addr) : Nat → Prop := fun x => ∃ ad, a = some ad ∧ ad.block = x

structure CrSt (w : World) (O : Nat → Prop) (q : Nat) (a : Option Addr) (n c dn : Nat) (vs rest : List Value) (bs : List (List Int)) (k t : Int) (j s : Nat) (W : World) : Prop where
  out : Out (blkOf a) w W
  z : Blk W q [.slice a n c, .int .i64 dn] 76
  r : Blk W (q + 2) [.slice none 0 0, .int .i64 0] 76
  g : Blk W (q + 3) [.slice a (dn + j) c] 28
  l : Blk W (q + 4) [.int .i64 (kst k t s).1, .int .i64 (kst k t s).2] 112
  b1 : Blk W (q + 5) [.slice (backA a c dn) (n - dn) (c - dn)] 28
  b2 : Blk W (q + 6) [.func (.func 88) #[] #[.pointer (some ⟨q + 4, 0, none⟩)]] 134
  row : ∃ hs, hs.length = dn + j ∧ Arr W a c (hs ++ (vs.drop (dn + j) ++ rest)) ∧ BsAt O W hs (bs.take dn ++ kRes (bs.drop dn) k t j)
  old : BsAt O W vs bs

section
variable {w : World} {O : Nat → Prop} {q : Nat} {a : Option Addr} {n c dn : Nat} {vs rest : List Value} {bs : List (List Int)} {k t : Int} {j s : Nat} {W W' : World}
theorem Arr.out {S : Nat → Prop} {L : List Value} (h : Arr W a c L) (ho : Out S W W') (hS : ∀ x, S x → ¬ blkOf a x) : Arr W' a c L := by
  rcases h with h | ⟨r, rfl, hr, h⟩
  · exact .inl h
  · exact .inr ⟨r, rfl, ho.blk hr (fun e => hS r e ⟨_, rfl, rfl⟩), h⟩
theorem CrSt.under (h : CrSt w O q a n c dn vs rest bs k t j s W) (hb : Below W.heap.size W W') : CrSt w O q a n c dn vs rest bs k t j s W' := by
  have ho := below_out Non hb
  obtain ⟨hs, h1, h2, h3⟩ := h.row
  exact ⟨h.out.under hb, ho.blk h.z id, ho.blk h.r id, ho.blk h.g id, ho.blk h.l id, ho.blk h.b1 id, ho.blk h.b2 id, ⟨hs, h1, h2.out ho (fun _ e => e.elim), h3.out ho (fun _ _ _ _ => id)⟩, h.old.out ho (fun _ _ _ _ => id)⟩
theorem CrSt.calm {l : Nat} (h : CrSt w O q a n c dn vs rest bs k t j s W) (hc : Calm l W W') (hl : w.heap.size ≤ l) : CrSt w O q a n c dn vs rest bs k t j s W' := by
  obtain ⟨hs, h1, h2, h3⟩ := h.row
  refine ⟨hc.out h.out hl, hc.blk h.z, hc.blk h.r, hc.blk h.g, hc.blk h.l, hc.blk h.b1, hc.blk h.b2, ⟨hs, h1, ?_, hc.bs h3⟩, hc.bs h.old⟩
  rcases h2 with h2 | ⟨r, rfl, hr, h2⟩
  · exact .inl h2
  · exact .inr ⟨r, rfl, hc.blk hr, h2⟩
/-- The loss is written. -/
theorem bs_cell {V : World} {g : Nat} {L : List Value} {t : TypeId} (hg : Blk V g L t) (h2 : t ≠ 5) {S : Nat → Prop} {V' : World} (ho : Out S V V') (hS : ∀ x, S x → x = g) {us : List Value} {bs : List (List Int)} (h : BsAt O V us bs) : BsAt O V' us bs :=
  h.out ho (fun c cur _ hc e => by
    have := hS c e
    subst this
    have : some (Obj.cells L.toArray t (0, 0)) = some (Obj.cells cur 5 (0, 0)) := (show V.heap[c]? = _ from hg).symm.trans hc
    simp at this
    exact h2 this.2)
theorem arr_ne {V : World} {g : Nat} {L L' : List Value} {t : TypeId} (hg : Blk V g L t) (ht : t ≠ 39) (h : Arr V a c L') : ¬ blkOf a g := by
  rintro ⟨ad, rfl, e⟩
  rcases h with ⟨h, _⟩ | ⟨r, h, hr, _⟩
  · cases h
  · cases h
    subst e
    exact blk_ne hg hr ht rfl
theorem CrSt.loss (h : CrSt w O q a n c dn vs rest bs k t j s W) (hw : w.heap.size ≤ q) (ho : Out (fun x => x = q + 4) W W') (hl : Blk W' (q + 4) [.int .i64 (kst k t (s + 1)).1, .int .i64 (kst k t (s + 1)).2] 112) : CrSt w O q a n c dn vs rest bs k t j (s + 1) W' := by
  obtain ⟨hs, h1, h2, h3⟩ := h.row
  refine ⟨h.out.trans ho (fun x e => .inr (by omega)), ho.blk h.z (by omega), ho.blk h.r (by omega), ho.blk h.g (by omega), hl, ho.blk h.b1 (by omega), ho.blk h.b2 (by omega), ⟨hs, h1, h2.out ho (fun x e => ?_), bs_cell h.l (by decide) ho (fun _ e => e) h3⟩, bs_cell h.l (by decide) ho (fun _ e => e) h.old⟩
  subst e
  exact arr_ne h.l (by decide) h2
theorem set_mid {α : Type} (hs : List α) (x v : α) (ds : List α) {m : Nat} (hm : hs.length = m) : (hs ++ v :: ds).set m x = (hs ++ [x]) ++ ds := by
  subst hm
  rw [List.set_append_right _ _ (Nat.le_refl _)]
  simp
/-- One block more. -/
theorem CrSt.app {R : Loop} {l : Nat} {D : List Int} {x : Value} (h : CrSt w O q a n c dn vs rest bs k t j s W) (hw : w.heap.size ≤ q) (hbk : Book R l W) (hvs : vs.length = n) (hbs : bs.length = n) (hj : dn + j < n) (hnc : n ≤ c) (hD : (bs.drop dn)[j]? = some D)
    (hx : BkAt O W x (tornL D (kFit (bs.drop dn) k t j))) (h1 : x.oneCell' = true) :
    ∃ r, a = some ⟨r, 0, none⟩ ∧ Blk (W.alloc (.cells #[x] 39)) (q + 3) [.slice a (dn + j) c] 28 ∧
      (Builtin.append_ #[28, 28] 28 #[.slice a (dn + j) c, .slice (some ⟨W.heap.size, 0, none⟩) 1 1]).run Try.prog (W.alloc (.cells #[x] 39)) = .ok (.slice a (dn + (j + 1)) c) ((W.alloc (.cells #[x] 39)).setCell ⟨r, dn + j, none⟩ x) ∧
      (((W.alloc (.cells #[x] 39)).setCell ⟨r, dn + j, none⟩ x).cell? ⟨q + 3, 0, none⟩ = some (.slice a (dn + j) c)) ∧ (((W.alloc (.cells #[x] 39)).setCell ⟨r, dn + j, none⟩ x).frozen? ⟨q + 3, 0, none⟩ = false) ∧
      CrSt w O q a n c dn vs rest bs k t (j + 1) s ((((W.alloc (.cells #[x] 39)).setCell ⟨r, dn + j, none⟩ x)).setCell ⟨q + 3, 0, none⟩ (.slice a (dn + (j + 1)) c)) ∧
      Book R l ((((W.alloc (.cells #[x] 39)).setCell ⟨r, dn + j, none⟩ x)).setCell ⟨q + 3, 0, none⟩ (.slice a (dn + (j + 1)) c)) := by
  have h' := h.under (((Below.refl _ _).alloc (Nat.le_refl _) (.cells #[x] 39)) : Below W.heap.size W (W.alloc (.cells #[x] 39)))
  have hx' : BkAt O (W.alloc (.cells #[x] 39)) x _ := hx.out (below_out Non ((Below.refl _ _).alloc (Nat.le_refl _) _)) (fun _ _ _ _ => id)
  have hc0 : (W.alloc (.cells #[x] 39)).cell? ⟨W.heap.size, 0, none⟩ = some x := by rw [World.cell?_alloc_mark]; rfl
  have hb' := hbk.below ((Below.refl _ _).alloc (Nat.le_refl _) (.cells #[x] 39))
  generalize hV : W.alloc (.cells #[x] 39) = V at *
  obtain ⟨hs, e1, e2, e3⟩ := h'.row
  obtain ⟨v0, hv0⟩ : ∃ v, vs.drop (dn + j) = v :: vs.drop (dn + (j + 1)) := ⟨vs[dn + j]'(by omega), by rw [List.drop_eq_getElem_cons (by omega)]; rfl⟩
  rcases e2 with ⟨_, hc, _⟩ | ⟨r, rfl, hr, hlen, hcm⟩
  · omega
  have hrq : r ≠ q + 3 := blk_ne hr h'.g (by decide)
  obtain ⟨i0, hi, hz0, hz1, hz2⟩ := info_parts Try.zero_bytes
  have hrun := run_append_room_cells (P := Try.prog) V 28 28 39 i0 Try.underlying28 hi r 0 (dn + j) c ⟨W.heap.size, 0, none⟩ 1 1 [x] (by rw [hz1]; rfl) (by
    intro i u hi
    match i, hi with
    | 0, hi =>
      simp at hi
      subst hi
      exact hc0) (by intro u hu; simp at hu; subst hu; exact h1) (by omega) (by
    intro i hi
    have : i = 0 := by simpa using hi
    subst this
    rw [hz1, hr.cell]
    simp
    simp [hv0] at hlen
    omega) (by intro i hi; exact hr.frozen _)
  rw [hz1] at hrun
  have eset : V.setCells r (0 + (dn + j) * 1) [x] = V.setCell ⟨r, dn + j, none⟩ x := by simp [World.setCells]
  rw [eset] at hrun
  have hr2 := hr.set (dn + j) x
  rw [hv0, List.cons_append, set_mid hs x v0 _ e1] at hr2
  have g2 := h'.g.set_other (a := ⟨r, dn + j, none⟩) (fun e => hrq e.symm) x
  have hr3 := hr2.set_other (a := ⟨q + 3, 0, none⟩) hrq (.slice (some ⟨r, 0, none⟩) (dn + (j + 1)) c)
  have ho2 : Out (fun y => y = r) V (V.setCell ⟨r, dn + j, none⟩ x) := out_cell _ _ _ _
  have ho3 : Out (fun y => y = q + 3) (V.setCell ⟨r, dn + j, none⟩ x) ((V.setCell ⟨r, dn + j, none⟩ x).setCell ⟨q + 3, 0, none⟩ (.slice (some ⟨r, 0, none⟩) (dn + (j + 1)) c)) := out_cell _ _ _ _
  have keep : ∀ {g : Nat} {L : List Value} {ty : TypeId}, Blk V g L ty → ty ≠ 39 → g ≠ q + 3 → Blk ((V.setCell ⟨r, dn + j, none⟩ x).setCell ⟨q + 3, 0, none⟩ (.slice (some ⟨r, 0, none⟩) (dn + (j + 1)) c)) g L ty := fun hb ht hn => ho3.blk (ho2.blk hb (blk_ne hb hr ht)) hn
  have kb : ∀ {us : List Value} {cs : List (List Int)}, BsAt O V us cs → BsAt O ((V.setCell ⟨r, dn + j, none⟩ x).setCell ⟨q + 3, 0, none⟩ (.slice (some ⟨r, 0, none⟩) (dn + (j + 1)) c)) us cs := fun hb => bs_cell g2 (by decide) ho3 (fun _ e => e) (bs_cell hr (by decide) ho2 (fun _ e => e) hb)
  have gd : (bs.drop dn).getD j [] = D := by simp [List.getD, hD]
  refine ⟨r, rfl, h'.g, hrun, g2.cell 0, g2.frozen 0, ⟨?_, keep h'.z (by decide) (by omega), keep h'.r (by decide) (by omega), g2.set 0 _, keep h'.l (by decide) (by omega), keep h'.b1 (by decide) (by omega), keep h'.b2 (by decide) (by omega), ⟨hs ++ [x], by simp [e1]; omega, .inr ⟨r, rfl, hr3, ?_, hcm⟩, ?_⟩, kb h'.old⟩, book_cell (book_cell hb' hr _ _) g2 _ _⟩
  · exact (h'.out.trans ho2 (fun y e => .inl ⟨_, rfl, e.symm⟩)).trans ho3 (fun y e => .inr (by omega))
  · rw [← hlen, hv0]; simp
  · rw [kRes_succ, gd, ← List.append_assoc]
    exact kb (e3.snoc hx')
end

theorem Try.zeroValue_bytes : ∀ w, (zeroValue 39).run Try.prog w = .ok (.slice none 0 0) w := fun _ => by kernel_rfl
/-- What is cleared behind a row's front. -/
theorem clear_arr {W : World} {a : Option Addr} {n c m : Nat} {L : List Value} (h : Arr W a c L) (hm : m ≤ n) (hn : n ≤ c) :
    ∃ W', (∀ ty, (Builtin.clear_ #[28] ty #[.slice (backA a c m) (n - m) (c - m)]).run Try.prog W = .ok (.tuple #[]) W') ∧ Out (blkOf a) W W' ∧ ∃ L', Arr W' a c (L.take m ++ L') := by
  rcases Nat.eq_zero_or_pos (n - m) with h0 | h0
  · refine ⟨W, fun ty => ?_, Out.refl _ _, L.drop m, by rw [List.take_append_drop]; exact h⟩
    rw [h0]
    cases backA a c m <;> simp [Builtin.clear_, run_underlying Try.underlying28]
  · rcases h with ⟨_, hc, _⟩ | ⟨r, rfl, hr, hl, hcm⟩
    · omega
    · have hb : backA (some ⟨r, 0, none⟩) c m = some ⟨r, m, none⟩ := by
        unfold backA
        rw [if_neg (by omega)]
        show some ((⟨r, 0, none⟩ : Addr).add m) = _
        rw [Addr.add_mid, Nat.zero_add]
      rw [hb]
      refine ⟨_, fun ty => Lib.run_clear_slice W 28 39 ty (.slice none 0 0) Try.underlying28 Try.zeroValue_bytes rfl rfl r m (n - m) (c - m) h0 (fun j hj => ?_) (fun j _ => hr.frozen _), ?_, ?_⟩
      · rw [hr.cell, List.getElem?_eq_getElem (by omega)]; rfl
      · have : ∀ (xs : List Value) (o : Nat) (V : World), Out (blkOf (some ⟨r, 0, none⟩)) W V → Out (blkOf (some ⟨r, 0, none⟩)) W (V.setCells r o xs) := by
          intro xs
          induction xs with
          | nil => intro o V h; exact h
          | cons x xs ih => intro o V h; exact ih (o + 1) _ (h.setCell (p := ⟨r, o, none⟩) (.inl ⟨_, rfl, rfl⟩) x)
        exact this _ _ _ (Out.refl _ _)
      · have hs := Blk.setCells (List.replicate (n - m) (Value.slice none 0 0)) m W L hr (by simp; omega)
        refine ⟨List.replicate (n - m) (Value.slice none 0 0) ++ L.drop (m + (n - m)), .inr ⟨r, rfl, ?_, ?_, hcm⟩⟩
        · rw [splice, List.length_replicate] at hs; exact hs
        · simp; omega
theorem BIn.other {W W' : World} {S : Nat → Prop} {a : Option Addr} {n : Nat} {D : List Int} (h : BIn W a n D) (ho : Out S W W') (hS : ∀ x, S x → ∀ i z, W.cell? ⟨x, i, none⟩ ≠ some (.int .u8 z)) : BIn W' a n D := by
  obtain ⟨h1, h2, h3, h4⟩ := h
  refine ⟨h1, h2, h3, ?_⟩
  rcases h4 with h4 | ⟨b, off, ha, hc⟩
  · exact .inl h4
  · exact .inr ⟨b, off, ha, fun i hi => ho.cell (hc i hi) (fun e => hS b e _ _ (hc i hi))⟩
end Go.Proofs.Yteokhkoaieibmaa

/- What one call of crashed does: the walk. -/
namespace Go.Proofs.Yteokhkoaieibmaa
open Go.RowKit Go.Shelf
set_option linter.unusedVariables false
set_option maxRecDepth 4000
attribute [local go_sem] Oper.semAt_some

def Crashed (w : World) (O : Nat → Prop) (a : Option Addr) (c : Nat) (bs : List (List Int)) (dn : Nat) (k t : Int) (e : Ending) (w' : World) : Prop :=
  e = .returned (.agg #[.slice a (crashB bs dn k t).length c, .int .i64 ((crashB bs dn k t).length : Nat)]) ∧ RowAt (fun x => O x ∨ w.heap.size ≤ x) w' (.slice a (crashB bs dn k t).length c) (crashB bs dn k t) ∧ Out (blkOf a) w w'

set_option maxHeartbeats 4000000 in
theorem crashed_of (O : Nat → Prop) (a : Option Addr) (n c dn : Nat) (k t : Int) (bs : List (List Int)) (w : World) (hb : RowAt O w (.slice a n c) bs) (hs : Short bs) (hpos : ∀ D ∈ bs, 0 < D.length) (hd : dn ≤ n) (hk : k < 9223372036854775808) :
    Calls Try.prog 61 #[.agg #[.slice a n c, .int .i64 dn], .agg #[.int .i64 k, .int .i64 t]] w (Crashed w O a c bs dn k t) := by
  obtain ⟨q, hq⟩ : ∃ q, q = w.heap.size := ⟨_, rfl⟩
  obtain ⟨vs, rest, harr, hbs, hvn, hnb, hnc⟩ := hb.arr
  have hO : ∀ r, a = some r → O r.block := by
    intro r e
    obtain ⟨_, _, h2, _⟩ := hb
    exact h2 r.block (by rw [e]; rfl)
  have hsf := slice_front Try.underlying28 Try.one_blocks a n c dn (by omega)
  have hsb := slice_back Try.underlying28 Try.one_blocks a n c dn hd
  rw [show (if c = dn then a else a.map (·.add dn)) = backA a c dn from rfl] at hsb
  refine (callsIn_wide (n := 5)).1 (callsIn_of_wp_marks Try.func61 rfl trivial (wpIn_wide.2 ?_))
  simp only [Try.ntmps61, List.size_toArray, List.length_cons, List.length_nil, Nat.reduceAdd, Nat.reduceSub, Array.replicate_succ, Array.replicate_zero, List.push_toArray, List.append_toArray, List.nil_append, List.cons_append]
  have HB : Hid (RowAt O w (.slice a n c) bs ∧ Short bs ∧ (∀ D ∈ bs, 0 < D.length) ∧ dn ≤ n ∧ k < 9223372036854775808 ∧ q = w.heap.size) := ⟨hb, hs, hpos, hd, hk, hq⟩
  have HA : Hid (Arr w a c (vs ++ rest) ∧ BsAt O w vs bs ∧ vs.length = n ∧ n = bs.length ∧ n ≤ c ∧ ∀ r, a = some r → O r.block) := ⟨harr, hbs, hvn, hnb, hnc, hO⟩
  clear hb hs hpos hd hk harr hbs hvn hnb hnc hO
  go_upto_region 2 with fail
  rw [← hq]
  have HW : Hid (Blk ((((w.alloc (.cells #[.slice a n c, .int .i64 dn] 76)).alloc (.cells #[.int .i64 k, .int .i64 t] 112)).alloc (.cells #[.slice none 0 0, .int .i64 0] 76)).alloc (.cells #[.slice a dn c] 28)) q [.slice a n c, .int .i64 dn] 76 ∧ Blk ((((w.alloc (.cells #[.slice a n c, .int .i64 dn] 76)).alloc (.cells #[.int .i64 k, .int .i64 t] 112)).alloc (.cells #[.slice none 0 0, .int .i64 0] 76)).alloc (.cells #[.slice a dn c] 28)) (q + 1) [.int .i64 k, .int .i64 t] 112 ∧ Blk ((((w.alloc (.cells #[.slice a n c, .int .i64 dn] 76)).alloc (.cells #[.int .i64 k, .int .i64 t] 112)).alloc (.cells #[.slice none 0 0, .int .i64 0] 76)).alloc (.cells #[.slice a dn c] 28)) (q + 2) [.slice none 0 0, .int .i64 0] 76 ∧ Blk ((((w.alloc (.cells #[.slice a n c, .int .i64 dn] 76)).alloc (.cells #[.int .i64 k, .int .i64 t] 112)).alloc (.cells #[.slice none 0 0, .int .i64 0] 76)).alloc (.cells #[.slice a dn c] 28)) (q + 3) [.slice a dn c] 28 ∧ Below q w ((((w.alloc (.cells #[.slice a n c, .int .i64 dn] 76)).alloc (.cells #[.int .i64 k, .int .i64 t] 112)).alloc (.cells #[.slice none 0 0, .int .i64 0] 76)).alloc (.cells #[.slice a dn c] 28)) ∧ ((((w.alloc (.cells #[.slice a n c, .int .i64 dn] 76)).alloc (.cells #[.int .i64 k, .int .i64 t] 112)).alloc (.cells #[.slice none 0 0, .int .i64 0] 76)).alloc (.cells #[.slice a dn c] 28)).heap.size = q + 4) :=
    ⟨(((Blk.new' hq.symm rfl).alloc _).alloc _).alloc _, ((Blk.new' (by simp [hq]) rfl).alloc _).alloc _, (Blk.new' (by simp [hq]) rfl).alloc _, Blk.new' (by simp [hq]) rfl, ((((Below.refl q w).alloc (by omega) _).alloc (by simp [hq]) _).alloc (by simp [hq]; omega) _).alloc (by simp [hq]; omega) _, by simp [hq]⟩
  generalize hW : World.alloc _ _ = W1 at HW ⊢
  have c0 : W1.cell? ⟨q, 0, none⟩ = some (.slice a n c) := HW.out.1.cell 0
  have c1 : W1.cell? ⟨q, 1, none⟩ = some (.int .i64 dn) := HW.out.1.cell 1
  have c2 : W1.cell? ⟨q + 1, 0, none⟩ = some (.int .i64 k) := HW.out.2.1.cell 0
  have c3 : W1.cell? ⟨q + 1, 1, none⟩ = some (.int .i64 t) := HW.out.2.1.cell 1
  have hsz : W1.heap.size = q + 4 := HW.out.2.2.2.2.2
  have d0 : ∀ o, (W1.alloc o).cell? ⟨q, 0, none⟩ = some (.slice a n c) := fun o => (HW.out.1.alloc o).cell 0
  have d1 : ∀ o, (W1.alloc o).cell? ⟨q, 1, none⟩ = some (.int .i64 dn) := fun o => (HW.out.1.alloc o).cell 1
  have d2 : ∀ o, (W1.alloc o).cell? ⟨q + 1, 0, none⟩ = some (.int .i64 k) := fun o => (HW.out.2.1.alloc o).cell 0
  have d3 : ∀ o, (W1.alloc o).cell? ⟨q + 1, 1, none⟩ = some (.int .i64 t) := fun o => (HW.out.2.1.alloc o).cell 1
  have g0 : ∀ o o' o'', (((W1.alloc o).alloc o').alloc o'').cell? ⟨q, 0, none⟩ = some (.slice a n c) := fun o o' o'' => (((HW.out.1.alloc o).alloc o').alloc o'').cell 0
  have g1 : ∀ o o' o'', (((W1.alloc o).alloc o').alloc o'').cell? ⟨q, 1, none⟩ = some (.int .i64 dn) := fun o o' o'' => (((HW.out.1.alloc o).alloc o').alloc o'').cell 1
  have g2 : ∀ o o' o'', (((W1.alloc o).alloc o').alloc o'').cell? ⟨q + 1, 0, none⟩ = some (.int .i64 k) := fun o o' o'' => (((HW.out.2.1.alloc o).alloc o').alloc o'').cell 0
  have g3 : ∀ o o' o'', (((W1.alloc o).alloc o').alloc o'').cell? ⟨q + 1, 1, none⟩ = some (.int .i64 t) := fun o o' o'' => (((HW.out.2.1.alloc o).alloc o').alloc o'').cell 1
  clear hW hq
  go_region_held3 (fun w' => w'.cell? ⟨q, 0, none⟩ = some (.slice a n c) ∧ w'.cell? ⟨q, 1, none⟩ = some (.int .i64 dn) ∧ w'.cell? ⟨q + 1, 0, none⟩ = some (.int .i64 k) ∧ w'.cell? ⟨q + 1, 1, none⟩ = some (.int .i64 t)) (first | exact ⟨c0, c1, c2, c3⟩ | exact ⟨d0 _, d1 _, d2 _, d3 _⟩ | exact ⟨g0 _ _ _, g1 _ _ _, g2 _ _ _, g3 _ _ _⟩)
    (first
    | (go_at_call 79; refine (kept_of k t _).mono ?_; rintro e w2 ⟨rfl, rfl⟩)
    | (go_at_call 77; refine (cut_of (backA a c dn) (n - dn) (c - dn) 88 _ _).mono ?_; rintro e w2 ⟨rfl, rfl⟩))
  have HV : Hid (CrSt w (fun x => O x ∨ w.heap.size ≤ x) q a n c dn vs rest bs k t 0 0 ((((W1.alloc (.cells #[.int .i64 k, .int .i64 t] 112)).alloc (.cells #[.slice (backA a c dn) (n - dn) (c - dn)] 28)).alloc (.cells #[.func (.func 88) #[] #[.pointer (some ⟨q + 4, 0, none⟩)]] 134)).drew) ∧ ((((W1.alloc (.cells #[.int .i64 k, .int .i64 t] 112)).alloc (.cells #[.slice (backA a c dn) (n - dn) (c - dn)] 28)).alloc (.cells #[.func (.func 88) #[] #[.pointer (some ⟨q + 4, 0, none⟩)]] 134)).drew).heap.size = q + 7) := by
    obtain ⟨h1, h2, h3, h4, h5, h6⟩ := HW.out
    obtain ⟨a1, a2, a3, a4, a5, a6⟩ := HA.out
    have hbel : Below w.heap.size w ((((W1.alloc (.cells #[.int .i64 k, .int .i64 t] 112)).alloc (.cells #[.slice (backA a c dn) (n - dn) (c - dn)] 28)).alloc (.cells #[.func (.func 88) #[] #[.pointer (some ⟨q + 4, 0, none⟩)]] 134)).drew) := by
      rw [← HB.out.2.2.2.2.2]
      exact (((h5.alloc (by omega) _).alloc (by simp; omega) _).alloc (by simp; omega) _).drew
    have hoN := below_out Non hbel
    refine ⟨⟨below_out _ hbel, ((h1.alloc _).alloc _).alloc _, ((h3.alloc _).alloc _).alloc _, ((h4.alloc _).alloc _).alloc _, ((Blk.new' h6 rfl).alloc _).alloc _, (Blk.new' (by simp [h6]) rfl).alloc _, Blk.new' (by simp [h6]) rfl, ⟨vs.take dn, by simp [a3]; have := HB.out.2.2.2.1; omega, ?_, ?_⟩, ?_⟩, by simp [h6]⟩
    · rw [← List.append_assoc, show dn + 0 = dn from rfl, List.take_append_drop]
      exact a1.out hoN (fun _ e => e.elim)
    · have hw := (a2.mono (O' := fun x => O x ∨ w.heap.size ≤ x) (fun c h _ => .inl h)).out hoN (fun _ _ _ _ => id)
      refine ⟨by simp [kRes, a2.1], fun i h D e1 e2 => ?_⟩
      have hi : i < dn := by have := (List.getElem?_eq_some_iff.1 e1).1; simp at this; omega
      rw [List.getElem?_take_of_lt hi] at e1
      rw [List.getElem?_append_left (by simp; have := HB.out.2.2.2.1; omega), List.getElem?_take_of_lt hi] at e2
      exact hw.2 i h D e1 e2
    · exact (a2.mono (O' := fun x => O x ∨ w.heap.size ≤ x) (fun c h _ => .inl h)).out hoN (fun _ _ _ _ => id)
  generalize hW2 : World.drew _ = W2 at HV ⊢
  have hsz2 : W2.heap.size = q + 7 := HV.out.2
  clear hW2 c0 c1 c2 c3 d0 d1 d2 d3 g0 g1 g2 g3 hsz HW
  simp only [Nat.add_assoc, Nat.reduceAdd]
  go_wp2
  refine wpIn_wide.1 (wpIn_range (n := 5) (gf := 85) (lb := #[.pointer (some ⟨q + 5, 0, none⟩), .pointer (some ⟨q + 6, 0, none⟩)]) rfl (enters_of Try.func85 (by kernel_rfl) rfl)
      (fun j W => CrSt w (fun x => O x ∨ w.heap.size ≤ x) q a n c dn vs rest bs k t j j W)
      (fun j x W => CrSt w (fun x => O x ∨ w.heap.size ≤ x) q a n c dn vs rest bs k t j (j + 1) W ∧ ∃ D, (bs.drop dn)[j]? = some D ∧ BkAt (fun x => O x ∨ w.heap.size ≤ x) W x (tornL D (kFit (bs.drop dn) k t j)) ∧ ∃ gx m, x = .slice (some ⟨gx, 0, none⟩) m m)
      (fun W => ∃ j s, CrSt w (fun x => O x ∨ w.heap.size ≤ x) q a n c dn vs rest bs k t j s W ∧ kRes (bs.drop dn) k t j = keptB (bs.drop dn) k t ∧ j ≤ n - dn)
      (fun j W W' h hc => h.calm hc (by have := HB.out.2.2.2.2.2; omega)) (fun j x W W' h hc => ⟨h.1.calm hc (by have := HB.out.2.2.2.2.2; omega), by obtain ⟨D, h1, h2, h3⟩ := h.2; exact ⟨D, h1, hc.bk h2, h3⟩⟩) (fun W W' h hc => by obtain ⟨j, s, h1, h2⟩ := h; exact ⟨j, s, h1.calm hc (by have := HB.out.2.2.2.2.2; omega), h2⟩)
      (fun o o' => HV.out.1.under (((Below.refl _ _).alloc (Nat.le_refl _) _).alloc (by simp) _))
      (fun x => { tmps := #[.agg #[.slice a n c, .int .i64 dn], .agg #[.int .i64 k, .int .i64 t], .pointer (some ⟨q, 0, none⟩), .pointer (some ⟨q + 1, 0, none⟩), .pointer (some ⟨q + 2, 0, none⟩), .pointer (some ⟨q + 3, 0, none⟩), x, .pointer (some ⟨q, 0, none⟩), .slice a n c, .pointer (some ⟨q, 1, none⟩), .int .i64 dn, .slice a dn c, .pointer (some ⟨q, 0, none⟩), .slice a n c, .pointer (some ⟨q, 1, none⟩), .int .i64 dn,
          .slice (backA a c dn) (n - dn) (c - dn), .agg #[.int .i64 k, .int .i64 t], .func (.func 88) #[] #[.pointer (some ⟨q + 4, 0, none⟩)], .func (.func 85) #[] #[.pointer (some ⟨q + 5, 0, none⟩), .pointer (some ⟨q + 6, 0, none⟩)], x, undef, undef, undef, undef, undef, undef, undef, undef, undef, undef, undef, undef, undef], defers := [] }) ?assign ?body ?iter ?done)
  case assign =>
    rintro l k x W K ⟨_, D, _, _, gx, m, rfl⟩ hK
    gi_wp2
    exact hK
  case body =>
    rintro l R j x W hbk ⟨hst, D, hD, hx, gx, m, rfl⟩
    have hj := (List.getElem?_eq_some_iff.1 hD).1
    obtain ⟨r, ha, g0, hrun, gc, gf, hs2, hbk2⟩ := hst.app (by have := HB.out.2.2.2.2.2; omega) hbk HA.out.2.2.1 HA.out.2.2.2.1.symm (by simp at hj; have := HA.out.2.2.2.1; omega) HA.out.2.2.2.2.1 hD hx rfl
    subst ha
    have c0 : W.cell? ⟨q + 3, 0, none⟩ = some (.slice (some ⟨r, 0, none⟩) (dn + j) c) := hst.g.cell 0
    have HS : Hid (CrSt w (fun x => O x ∨ w.heap.size ≤ x) q (some ⟨r, 0, none⟩) n c dn vs rest bs k t (j + 1) (j + 1) ((((W.alloc (.cells #[.slice (some ⟨gx, 0, none⟩) m m] 39)).setCell ⟨r, dn + j, none⟩ (.slice (some ⟨gx, 0, none⟩) m m))).setCell ⟨q + 3, 0, none⟩ (.slice (some ⟨r, 0, none⟩) (dn + (j + 1)) c)) ∧
      Book R W2.heap.size ((((W.alloc (.cells #[.slice (some ⟨gx, 0, none⟩) m m] 39)).setCell ⟨r, dn + j, none⟩ (.slice (some ⟨gx, 0, none⟩) m m))).setCell ⟨q + 3, 0, none⟩ (.slice (some ⟨r, 0, none⟩) (dn + (j + 1)) c))) := ⟨hs2, hbk2⟩
    have HR : Hid ((Builtin.append_ #[28, 28] 28 #[.slice (some ⟨r, 0, none⟩) (dn + j) c, .slice (some ⟨W.heap.size, 0, none⟩) 1 1]).run Try.prog (W.alloc (.cells #[.slice (some ⟨gx, 0, none⟩) m m] 39)) = .ok (.slice (some ⟨r, 0, none⟩) (dn + (j + 1)) c) ((W.alloc (.cells #[.slice (some ⟨gx, 0, none⟩) m m] 39)).setCell ⟨r, dn + j, none⟩ (.slice (some ⟨gx, 0, none⟩) m m))) := hrun
    clear hrun hs2 hbk2 hst hx g0 hbk
    generalize hV : World.setCell (World.alloc _ _) _ _ = V at HS HR gc gf
    clear hV
    gi_wp2_with (gi_at_builtin; refine wpListIn_append_run rfl (.tmp 21) (.tmp 23) 28 28 rfl _ _ rfl rfl _ _ HR.out ?_)
    exact ⟨by rw [← hsz2]; exact HS.out.2, HS.out.1⟩
  case iter =>
    intro R W hY hbk h0
    have hus : (bs.drop dn).length = n - dn := by simp [← HA.out.2.2.2.1]
    refine (cut1_of (n := 5 - 1) (J := fun j W => CrSt w (fun x => O x ∨ w.heap.size ≤ x) q a n c dn vs rest bs k t j j W) (JF := fun j W => CrSt w (fun x => O x ∨ w.heap.size ≤ x) q a n c dn vs rest bs k t j (j + 1) W) (gf := 88) (lb := #[.pointer (some ⟨q + 4, 0, none⟩)]) (fit := kFit (bs.drop dn) k t) (a := backA a c dn) (nb := n - dn) (c := c - dn) (bs := bs.drop dn)
        ⟨hus, by have := HB.out.1; obtain ⟨_, _, _, _, h4⟩ := this; have := HA.out.2.2.2.1; omega, fun k W h => ⟨h.b1.cell 0, h.b2.cell 0⟩, ?rd, ?fits, ?le, ?torn⟩ (enters_of Try.func88 (by kernel_rfl) rfl) hY W hbk h0).mono ?_
    case rd =>
      intro j W D h hD
      have hj := (List.getElem?_eq_some_iff.1 hD).1
      rw [hus] at hj
      obtain ⟨hs, e1, e2, e3⟩ := h.row
      rcases e2 with ⟨_, hc, _⟩ | ⟨r, ha, hr, hlen, hcm⟩
      · have := HA.out.2.2.2.2.1; omega
      subst ha
      have hb : backA (some ⟨r, 0, none⟩) c dn = some ⟨r, dn, none⟩ := by
        unfold backA
        rw [if_neg (by have := HA.out.2.2.2.2.1; omega)]
        show some ((⟨r, 0, none⟩ : Addr).add dn) = _
        rw [Addr.add_mid, Nat.zero_add]
      have hv : ∃ v, vs[dn + j]? = some v := ⟨vs[dn + j]'(by rw [HA.out.2.2.1]; omega), by simp⟩
      obtain ⟨v, hv⟩ := hv
      have hD' : bs[dn + j]? = some D := by rw [List.getElem?_drop] at hD; exact hD
      have hbk := h.old.2 (dn + j) v D hv hD'
      obtain ⟨A, L, C, rfl, h2, h3, h4, h5⟩ := hbk.bkin (HB.out.2.1 D (List.mem_of_getElem? hD'))
      refine ⟨r, dn, A, L, C, hb, ?_, h2, h4, h5⟩
      rw [hr.cell, List.getElem?_append_right (by omega), e1, Nat.sub_self, List.getElem?_append_left (by simp [HA.out.2.2.1]; omega), List.getElem?_drop]
      exact hv
    case fits =>
      intro j W D A L C h hD hin hb
      refine (kept1_of (kst k t j).1 (kst k t j).2 (q + 4) A L C W h.l (by have := kst_le k t j; have := HB.out.2.2.2.2.1; omega)).mono ?_
      rintro e w' ⟨rfl, e2, e3, e4⟩
      have hgd : (bs.drop dn).getD j [] = D := by simp only [List.getD, hD]; rfl
      refine ⟨by rw [kFit, hgd, hin.1], h.loss (by have := HB.out.2.2.2.2.2; omega) e3 e2, hb.out e3 (fun x e => by subst e; exact ⟨_, _, _, h.l⟩), hin.other e3 (fun x e i z hc => ?_)⟩
      subst e
      rw [h.l.cell] at hc
      match i, hc with
      | 0, hc => cases hc
      | 1, hc => cases hc
      | i + 2, hc => cases hc
    case le =>
      intro j D hD
      have hgd : (bs.drop dn).getD j [] = D := by simp only [List.getD, hD]; rfl
      rw [kFit, hgd]
      exact keptN_le _ _ _
    case torn =>
      intro j W D x W' h hD hp hb hx hg
      obtain ⟨gx, rfl⟩ := hg
      refine ⟨h.under hb, D, hD, hx.mono (fun c hc _ => .inr (by have := h.out.size; omega)), gx, _, rfl⟩
    rintro e W' ⟨hv, hb, j, hj, hp, he⟩
    refine ⟨hv, hb, j, ?_⟩
    have hl : ∀ D ∈ bs.drop dn, 0 < D.length := fun D h => HB.out.2.2.1 D (List.mem_of_mem_drop h)
    rcases he with ⟨h1, h2⟩ | ⟨h1, h2, h3⟩
    · exact ⟨j, h2, kRes_eq hl (by rw [hus]; exact hj) hp (.inl (by rw [hus]; exact h1)), hj⟩
    · exact ⟨j + 1, h3, kRes_eq hl (by rw [hus]; exact hj) hp (.inr ⟨by rw [hus]; exact h1, h2⟩), hj⟩
  case done =>
    rintro W ⟨j, s, hst, he, hj⟩ hK
    obtain ⟨hs, e1, e2, e3⟩ := hst.row
    rw [he, show bs.take dn ++ keptB (bs.drop dn) k t = crashB bs dn k t from rfl] at e3
    have hm : dn + j = (crashB bs dn k t).length := by rw [← e3.1, e1]
    obtain ⟨m, hmm⟩ : ∃ m, m = dn + j := ⟨_, rfl⟩
    have hmn : m ≤ n := by have := HB.out.2.2.2.1; omega
    obtain ⟨W3, hcl, ho3, L', ha3⟩ := clear_arr e2 hmn HA.out.2.2.2.2.1
    rw [List.take_left' (by rw [e1, hmm])] at ha3
    have hsm := slice_back Try.underlying28 Try.one_blocks a n c m hmn
    rw [show (if c = m then a else a.map (·.add m)) = backA a c m from rfl] at hsm
    rw [← hmm] at hm
    have hg := hst.g
    rw [← hmm] at hg
    have z3 : Blk W3 q _ _ := ho3.blk hst.z (arr_ne hst.z (by decide) e2)
    have r3 : Blk W3 (q + 2) _ _ := ho3.blk hst.r (arr_ne hst.r (by decide) e2)
    have g3 : Blk W3 (q + 3) _ _ := ho3.blk hg (arr_ne hg (by decide) e2)
    have b3 : BsAt (fun x => O x ∨ w.heap.size ≤ x) W3 hs (crashB bs dn k t) := e3.out ho3 (fun y cur _ hc hy => by
      obtain ⟨ad, ha, hb⟩ := hy
      rcases e2 with ⟨h, _⟩ | ⟨r, h, hr, _⟩
      · rw [ha] at h; cases h
      · rw [ha] at h; cases h
        subst hb
        have hr' : W.heap[r]? = _ := hr
        rw [hr'] at hc; simp at hc)
    have k3 : W3.heap[W2.heap.size]? = some (.deferred (some [])) := by
      rw [ho3.block _ (Array.getElem?_eq_some_iff.1 hK).1 (fun hy => ?_)]; exact hK
      obtain ⟨ad, ha, hb⟩ := hy
      rcases e2 with ⟨h, _⟩ | ⟨r, h, hr, _⟩
      · rw [ha] at h; cases h
      · rw [ha] at h; cases h
        have hr' : W.heap[r]? = _ := hr
        rw [← hb, hr'] at hK; cases hK
    have HO : Hid (Arr W3 a c (hs ++ L') ∧ BsAt (fun x => O x ∨ w.heap.size ≤ x) W3 hs (crashB bs dn k t) ∧ Blk W3 (q + 2) [.slice none 0 0, .int .i64 0] 76 ∧ W3.heap[W2.heap.size]? = some (.deferred (some [])) ∧ Out (blkOf a) w W3 ∧ m = (crashB bs dn k t).length ∧ m ≤ n) := ⟨ha3, b3, r3, k3, hst.out.trans ho3 (fun _ e => .inl e), hm, hmn⟩
    have c0 : W.cell? ⟨q, 0, none⟩ = some (.slice a n c) := hst.z.cell 0
    have c1 : W.cell? ⟨q + 3, 0, none⟩ = some (.slice a m c) := hg.cell 0
    have c2 : W3.cell? ⟨q + 3, 0, none⟩ = some (.slice a m c) := g3.cell 0
    have e0 : W3.cell? ⟨q + 2, 0, none⟩ = some (.slice none 0 0) := r3.cell 0
    have e1' : W3.cell? ⟨q + 2, 1, none⟩ = some (.int .i64 0) := r3.cell 1
    have f0 := r3.frozen 0
    have f1 := r3.frozen 1
    have HK : Hid (j ≤ n - dn) := hj
    clear hst hK he e1 e2 e3 hm hmm hmn ho3 ha3 hg z3 r3 g3 b3 k3 hj
    go_wp2
    obtain ⟨ha3, b3, r3, k3, ho3, hm, hmn⟩ := HO.out
    have r4 := ((r3.set 0 (.slice a m c)).set 1 (.int .i64 m))
    have hK' : ((W3.setCell ⟨q + 2, 0, none⟩ (.slice a m c)).setCell ⟨q + 2, 1, none⟩ (.int .i64 m)).heap[W2.heap.size]? = some (.deferred (some [])) := by
      rw [Below.heap_setCell _ _ _ _ (by show W2.heap.size ≠ q + 2; omega), Below.heap_setCell _ _ _ _ (by show W2.heap.size ≠ q + 2; omega)]; exact k3
    have hcm := calm_shut hK' (.deferred none)
    have rw3 : RowAt (fun x => O x ∨ w.heap.size ≤ x) W3 (.slice a (crashB bs dn k t).length c) (crashB bs dn k t) := ha3.row b3 (by obtain ⟨_, _, _, _, h4⟩ := HB.out.1; have := HA.out.2.2.2.1; omega) (fun r e => .inl (HA.out.2.2.2.2.2 r e))
    have hrow := hcm.row (out_row (r3.set 0 (.slice a m c)) (by decide) (by decide) 1 (.int .i64 m) (out_row r3 (by decide) (by decide) 0 (.slice a m c) rw3))
    have hq : q = w.heap.size := HB.out.2.2.2.2.2
    have hbel : Out (blkOf a) w ((W3.setCell ⟨q + 2, 0, none⟩ (.slice a m c)).setCell ⟨q + 2, 1, none⟩ (.int .i64 m)) := (ho3.setCell (p := ⟨q + 2, 0, none⟩) (.inr (by show w.heap.size ≤ q + 2; omega)) _).setCell (p := ⟨q + 2, 1, none⟩) (.inr (by show w.heap.size ≤ q + 2; omega)) _
    refine ⟨by simp, .inl ⟨_, _, rfl, run_takeDeferred hK', ?_⟩⟩
    refine ⟨_, results_cell_one (p := 4) (ty := 76) rfl _ _ (q + 2) _ _ _ rfl (hcm.blk r4) Try.underlying76 rfl Try.info_zone, by rw [← hm]; rfl, hrow, hcm.out hbel (by omega)⟩
end Go.Proofs.Yteokhkoaieibmaa

/- A device in memory, the program's or the document's. -/
namespace Go.Proofs.Yteokhkoaieibmaa
open Go.RowKit Go.Shelf
set_option linter.unusedVariables false
set_option maxRecDepth 4000

structure Sh where
  z : Int
  zb : Int
  b : Int
  r : Int
def shL (s : Sh) : List Value := [.int .i64 s.z, .int .i64 s.zb, .int .i64 s.b, .int .i64 s.r]
def Powers : List Int := [64, 128, 256, 512, 1024, 2048, 4096]
def RightS (s : Sh) : Prop := 6 ≤ s.z ∧ s.z ≤ 256 ∧ 8 ≤ s.zb ∧ s.zb ≤ 4096 ∧ s.b ∈ Powers ∧ 2 ≤ s.r ∧ s.r ≤ s.z - 4
instance (s : Sh) : Decidable (RightS s) := by unfold RightS; infer_instance
theorem power_bounds {b : Int} (h : b ∈ Powers) : 64 ≤ b ∧ b ≤ 4096 := by
  simp [Powers] at h
  omega

structure Wf (s : Sh) (zs : List Zn) : Prop where
  right : RightS s
  len : (zs.length : Int) = s.z
  zone : ∀ z ∈ zs, (z.1.length : Int) ≤ s.zb ∧ 0 ≤ z.2 ∧ z.2 ≤ z.1.length ∧ ∀ D ∈ z.1, (D.length : Int) = s.b

structure DvV (T : TypeId) (O : Nat → Prop) (W : World) (p : Nat) (s : Sh) (zs : List Zn) (g c : Nat) (vs : List Value) : Prop where
  hp : Blk W p [.int .i64 s.z, .int .i64 s.zb, .int .i64 s.b, .int .i64 s.r, .slice (some ⟨g, 0, none⟩) zs.length c] T
  hg : W.ownsRow 0 76 2 (.slice (some ⟨g, 0, none⟩) zs.length c) zs.length (zcells vs zs)
  op : O p
  og : O g
  vl : vs.length = zs.length
  rows : ∀ (i : Nat) (u : Value) (z : Zn), vs[i]? = some u → zs[i]? = some z → RowAt O W u z.1
  ap : Apart vs
  small : zs.length ≤ 1000
  ty : T ≠ 76 ∧ T ≠ 39 ∧ T ≠ 5
def Dv (T : TypeId) (O : Nat → Prop) (W : World) (p : Nat) (s : Sh) (zs : List Zn) : Prop := ∃ g c vs, DvV T O W p s zs g c vs

section
variable {T : TypeId} {O S : Nat → Prop} {W W' : World} {p : Nat} {s : Sh} {zs : List Zn} {g c : Nat} {vs : List Value}
theorem DvV.all (h : DvV T O W p s zs g c vs) : ZsAt O W (.slice (some ⟨g, 0, none⟩) zs.length c) zs := ⟨vs, h.hg, fun r e => by cases e; exact h.og, h.vl, h.rows, h.ap, h.small⟩
theorem DvV.out (h : DvV T O W p s zs g c vs) (ho : Out S W W') (hS : ∀ x, O x → ¬ S x) : DvV T O W' p s zs g c vs := by
  refine ⟨ho.blk h.hp (hS p h.op), ho.own h.hg (fun r e => by cases e; exact hS g h.og), h.op, h.og, h.vl, fun i u z h1 h2 => ?_, h.ap, h.small, h.ty⟩
  have := h.rows i u z h1 h2
  exact this.out ho (fun r hr => by obtain ⟨_, _, hb, _⟩ := this; exact hS r (hb r hr)) (fun c _ hc _ => hS c hc)
theorem DvV.mono {O' : Nat → Prop} (h : DvV T O W p s zs g c vs) (hO : ∀ x, O x → x < W.heap.size → O' x) : DvV T O' W p s zs g c vs :=
  ⟨h.hp, h.hg, hO p h.op h.hp.lt, hO g h.og (h.hg.lt g rfl).2, h.vl, fun i u z h1 h2 => (h.rows i u z h1 h2).mono hO, h.ap, h.small, h.ty⟩
theorem DvV.under (h : DvV T O W p s zs g c vs) (hb : Below W.heap.size W W') : DvV T O W' p s zs g c vs := h.out (below_out Non hb) (fun _ _ e => e)
theorem DvV.lt (h : DvV T O W p s zs g c vs) : p < W.heap.size ∧ g < W.heap.size := ⟨h.hp.lt, (h.hg.lt g rfl).2⟩
theorem DvV.pcell (h : DvV T O W p s zs g c vs) : W.cell? ⟨p, 0, none⟩ = some (.int .i64 s.z) ∧ W.cell? ⟨p, 1, none⟩ = some (.int .i64 s.zb) ∧ W.cell? ⟨p, 2, none⟩ = some (.int .i64 s.b) ∧ W.cell? ⟨p, 3, none⟩ = some (.int .i64 s.r) ∧ W.cell? ⟨p, 4, none⟩ = some (.slice (some ⟨g, 0, none⟩) zs.length c) :=
  ⟨h.hp.cell 0, h.hp.cell 1, h.hp.cell 2, h.hp.cell 3, h.hp.cell 4⟩
theorem DvV.at (h : DvV T O W p s zs g c vs) {i : Nat} {z : Zn} (hz : zs[i]? = some z) : ∃ a cc, vs[i]? = some (.slice a z.1.length cc) ∧ RowAt O W (.slice a z.1.length cc) z.1 ∧ W.cell? ⟨g, i * 2, none⟩ = some (.slice a z.1.length cc) ∧ W.cell? ⟨g, i * 2 + 1, none⟩ = some (.int .i64 z.2) := by
  rw [Nat.mul_comm i 2]
  have hi := (List.getElem?_eq_some_iff.1 hz).1
  obtain ⟨u, hu⟩ : ∃ u, vs[i]? = some u := ⟨vs[i]'(by rw [h.vl]; exact hi), by simp [h.vl, hi]⟩
  have hr := h.rows i u z hu hz
  obtain ⟨a, cc, rfl⟩ := hr.slice
  obtain ⟨h1, h2⟩ := zcells_get vs zs i _ z hu hz
  have hl := zcells_length vs zs h.vl
  exact ⟨a, cc, hu, hr, by rw [h.hg.cellAt (2 * i) (by omega)]; exact h1, by rw [h.hg.cellAt (2 * i + 1) (by omega)]; exact h2⟩
theorem DvV.free (h : DvV T O W p s zs g c vs) (j : Nat) : W.frozen? ⟨g, j, none⟩ = false := h.hg.frozenAt j
/-- A zone's durable number is written. -/
theorem own_blk {e : TypeId} {sz n cap : Nat} {g : Nat} {xs : List Value} (h : W.ownsRow 0 e sz (.slice (some ⟨g, 0, none⟩) n cap) n xs) : ∃ L, Blk W g L e := by
  obtain ⟨cur, hc⟩ := own_at_block h rfl
  exact ⟨cur.toList, by unfold Blk; rw [hc]⟩
theorem DvV.setD (h : DvV T O W p s zs g c vs) {i : Nat} {z : Zn} (hz : zs[i]? = some z) (d : Int) : DvV T O (W.setCell ⟨g, i * 2 + 1, none⟩ (.int .i64 d)) p s (zs.set i (z.1, d)) g c vs := by
  rw [Nat.mul_comm i 2]
  obtain ⟨L, hL⟩ := own_blk h.hg
  have hl : (zs.set i (z.1, d)).length = zs.length := by simp
  obtain ⟨s1, s2⟩ := h.hg.stored (2 * i + 1) (.int .i64 d)
  rw [zcells_setD vs zs i (z.1, d) h.vl] at s1
  refine ⟨by rw [hl]; exact h.hp.set_other (blk_ne h.hp hL h.ty.1) _, by rw [hl]; exact s1, h.op, h.og, by rw [hl]; exact h.vl, fun j u y h1 h2 => ?_, h.ap, by rw [hl]; exact h.small, h.ty⟩
  refine out_row hL (by decide) (by decide) _ _ ?_
  by_cases e : i = j
  · subst e
    have hi := (List.getElem?_eq_some_iff.1 hz).1
    rw [List.getElem?_set_self hi] at h2
    cases h2
    exact h.rows i u z h1 hz
  · rw [List.getElem?_set_ne e] at h2
    exact h.rows j u y h1 h2
/-- A zone's row is another one. -/
theorem DvV.upd {O1 : Nat → Prop} {W1 : World} {i : Nat} {z : Zn} {u u' : Value} {bs' : List (List Int)} (h : DvV T O W p s zs g c vs) (hz : zs[i]? = some z) (hu : vs[i]? = some u) (ho : Out (fun x => u.ownBlock = some x) W W1)
    (hO : ∀ x, O x → O1 x) (hr : RowAt O1 W1 u' bs') (hf : u'.ownBlock = u.ownBlock ∨ ∀ r, u'.ownBlock = some r → W.heap.size ≤ r) :
    W1.cell? ⟨g, i * 2, none⟩ = some u ∧ W1.cell? ⟨g, i * 2 + 1, none⟩ = some (.int .i64 z.2) ∧ (∀ j, W1.frozen? ⟨g, j, none⟩ = false) ∧ DvV T O1 (W1.setCell ⟨g, i * 2, none⟩ u') p s (zs.set i (bs', z.2)) g c (vs.set i u') := by
  rw [Nat.mul_comm i 2]
  have hi := (List.getElem?_eq_some_iff.1 hz).1
  have hru := h.rows i u z hu hz
  obtain ⟨uv, u1, u2, u3, _⟩ := id hru
  obtain ⟨L, hL⟩ := own_blk h.hg
  have hgu : u.ownBlock ≠ some g := blk_not_row hL (by decide) u1
  have hpu : u.ownBlock ≠ some p := blk_not_row h.hp h.ty.2.1 u1
  have hg1 : W1.ownsRow 0 76 2 (.slice (some ⟨g, 0, none⟩) zs.length c) zs.length (zcells vs zs) := ho.own h.hg (fun r e => by cases e; exact hgu)
  have hp1 := ho.blk h.hp hpu
  obtain ⟨L1, hL1⟩ := own_blk hg1
  have hl : (zs.set i (bs', z.2)).length = zs.length := by simp
  obtain ⟨g1, g2⟩ := zcells_get vs zs i _ z hu hz
  have hzl := zcells_length vs zs h.vl
  obtain ⟨s1, s2⟩ := hg1.stored (2 * i) u'
  rw [zcells_setV vs zs i u' h.vl] at s1
  have hsame : zcells (vs.set i u') zs = zcells (vs.set i u') (zs.set i (bs', z.2)) := zcells_same _ _ _ (by
    rw [List.map_set]
    apply List.ext_getElem?
    intro j
    by_cases e : i = j
    · subst e; rw [List.getElem?_set_self (by simp; exact hi)]; simp [hz]
    · rw [List.getElem?_set_ne e])
  rw [hsame] at s1
  refine ⟨by rw [hg1.cellAt _ (by omega)]; exact g1, by rw [hg1.cellAt _ (by omega)]; exact g2, fun j => hg1.frozenAt j, ⟨by rw [hl]; exact hp1.set_other (blk_ne hp1 hL1 h.ty.1) _, by rw [hl]; exact s1, hO p h.op, hO g h.og, by simp [h.vl], fun j v y h1 h2 => ?_, ?_, by rw [hl]; exact h.small, h.ty⟩⟩
  · refine out_row hL1 (by decide) (by decide) _ _ ?_
    by_cases e : i = j
    · subst e
      rw [List.getElem?_set_self hi] at h2
      rw [List.getElem?_set_self (by rw [h.vl]; exact hi)] at h1
      cases h1; cases h2
      exact hr
    · rw [List.getElem?_set_ne e] at h1 h2
      have hrj := h.rows j v y h1 h2
      refine (hrj.out ho (fun r e1 e2 => e (h.ap i j u v r hu h1 e2 e1)) (fun x cur _ hc e2 => ?_)).mono (fun x hx _ => hO x hx)
      obtain ⟨cur', hc'⟩ := own_at_block u1 e2
      rw [hc] at hc'; cases hc'
  · intro j k v y r h1 h2 e1 e2
    have hb : ∀ (j : Nat) (v : Value) (r : Nat), j ≠ i → vs[j]? = some v → v.ownBlock = some r → u'.ownBlock = some r → False := by
      intro j v r hj hv er eu
      rcases hf with hf | hf
      · rw [hf] at eu
        exact hj (h.ap j i v u r hv hu er eu)
      · have := hf r eu
        have hlt : j < zs.length := by rw [← h.vl]; exact (List.getElem?_eq_some_iff.1 hv).1
        obtain ⟨_, q1, _⟩ := h.rows j v zs[j] hv (by simp [hlt])
        have := (q1.lt r er).2
        omega
    by_cases ej : i = j
    · by_cases ek : i = k
      · omega
      · subst ej
        rw [List.getElem?_set_self (by rw [h.vl]; exact hi)] at h1
        rw [List.getElem?_set_ne ek] at h2
        cases h1
        exact (hb k y r (by omega) h2 e2 e1).elim
    · rw [List.getElem?_set_ne ej] at h1
      by_cases ek : i = k
      · subst ek
        rw [List.getElem?_set_self (by rw [h.vl]; exact hi)] at h2
        cases h2
        exact (hb j v r (by omega) h1 e1 e2).elim
      · rw [List.getElem?_set_ne ek] at h2
        exact h.ap j k v y r h1 h2 e1 e2
end
end Go.Proofs.Yteokhkoaieibmaa
