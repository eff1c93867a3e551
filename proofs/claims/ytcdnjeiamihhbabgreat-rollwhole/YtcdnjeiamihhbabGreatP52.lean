/- P52 -/
import Derived.Test.YtcdnjeiamihhbabGreatP51
set_option linter.unusedVariables false
set_option maxRecDepth 4000
namespace Go.Proofs.YtcdnjeiamihhbabGreat
open Go.RowKit Go.Sort Go.Lib Go.Shelf
theorem Dv.bytes {T : TypeId} {O : Nat → Prop} {W : World} {p : Nat} {s : Sh} {zs : List Zn} (h : Dv T O W p s zs) : ∀ z ∈ zs, ∀ D ∈ z.1, ∀ b ∈ D, Fits8 b := by
 intro z hz D hD b hb
 obtain ⟨g, c, vs, h⟩ := h
 obtain ⟨i, hi⟩ := List.getElem?_of_mem hz
 obtain ⟨j, hj⟩ := List.getElem?_of_mem hD
 have hil := (List.getElem?_eq_some_iff.1 hi).1
 obtain ⟨u, hu⟩ : ∃ u, vs[i]? = some u := ⟨vs[i]'(by rw [h.vl]; exact hil), by simp [h.vl, hil]⟩
 obtain ⟨ws, _, _, hb2, _⟩ := h.rows i u z hu hi
 have hjl := (List.getElem?_eq_some_iff.1 hj).1
 obtain ⟨y, hy⟩ : ∃ y, ws[j]? = some y := ⟨ws[j]'(by rw [hb2.1]; exact hjl), by simp [hb2.1, hjl]⟩
 exact (hb2.2 j y D hy hj).2.2.1 b hb
theorem Dv.blk_bytes {T : TypeId} {O : Nat → Prop} {W : World} {p : Nat} {s : Sh} {zs : List Zn} (h : Dv T O W p s zs) {a : Pr} {E : List Int} (he : blkZ zs a = some E) : ∀ b ∈ E, Fits8 b := by
 obtain ⟨i, j, z, rfl, hz, hj⟩ := blkZ_some he
 exact h.bytes z (List.mem_of_getElem? hz) E (List.mem_of_getElem? hj)
theorem elB_bytes {T : TypeId} {O : Nat → Prop} {W : World} {p : Nat} {s : Sh} {zs : List Zn} (h : Dv T O W p s zs) (z : Int) (i : Nat) : ∀ b ∈ elB zs z i, Fits8 b := by
 unfold elB
 cases hr : recB zs (z, (i : Int)) with
 | none => simp
 | some E => exact h.blk_bytes (recB_some hr).1
theorem bestK_fits {T : TypeId} {O : Nat → Prop} {W : World} {p : Nat} {s : Sh} {zs : List Zn} (h : Dv T O W p s zs) : ∀ k, FitsU (bestK s zs k).1
 | 0 => by show FitsU 0; unfold FitsU; omega
 | k + 1 => by
  show FitsU (bestStep s (bestK s zs k) (zs.getD k ([], 0)).1 (k : Int)).1
  unfold bestStep
  split
  ·refine allSeq_fits _ (fun b hb => ?_)
   rcases Nat.lt_or_ge k zs.length with hk | hk
   ·rw [show zs.getD k ([], 0) = zs[k] by simp [List.getD, hk]] at hb
    exact h.bytes _ (List.getElem_mem hk) b hb
   ·rw [show zs.getD k ([], 0) = ([], 0) by simp [List.getD, List.getElem?_eq_none hk]] at hb
    simp at hb
  ·exact bestK_fits h k
theorem bestK_slot (s : Sh) (zs : List Zn) : ∀ k, (bestK s zs k).2.2.2 = 0 → ∃ j : Nat, j < k ∧ (bestK s zs k).2.2.1 = j
 | 0, h => by exact absurd h (by show ¬ (142 : Int) = 0; omega)
 | k + 1, h => by
  have e : bestK s zs (k + 1) = bestStep s (bestK s zs k) (zs.getD k ([], 0)).1 (k : Int) := rfl
  rw [e] at h ⊢
  unfold bestStep at h ⊢
  split
  ·exact ⟨k, by omega, rfl⟩
  ·rename_i hn
   rw [if_neg hn] at h
   obtain ⟨j, hj, he⟩ := bestK_slot s zs k h
   exact ⟨j, by omega, he⟩
theorem puts_good : ∀ (l P : List Pl), Good P → (∀ x ∈ l, FitsP x) → Good (l.foldl putS P) ∧ (l.foldl putS P).length ≤ P.length + l.length
 | [], P, h, _ => ⟨h, Nat.le_refl _⟩
 | x :: l, P, h, hf => by
  obtain ⟨h1, h2⟩ := puts_good l (putS P x) (h.put (hf x (by simp))) (fun y hy => hf y (by simp [hy]))
  have h3 := putS_len h x
  refine ⟨h1, ?_⟩
  show (l.foldl putS (putS P x)).length ≤ _
  rw [List.length_cons]
  omega
theorem held_good (zs : List Zn) (l : List Pl) (hf : ∀ x ∈ l, FitsP x) : Good (heldS zs l) ∧ (heldS zs l).length ≤ l.length := by
 have : ∀ (l P : List Pl), Good P → (∀ x ∈ l, FitsP x) → Good (l.foldl (fun S x => if (blkZ zs x.2).isSome = true then putS S x else S) P) ∧ (l.foldl (fun S x => if (blkZ zs x.2).isSome = true then putS S x else S) P).length ≤ P.length + l.length := by
  intro l
  induction l with
  | nil => intro P h _; exact ⟨h, Nat.le_refl _⟩
  | cons x l ih =>
   intro P h hf
   rw [List.length_cons, List.foldl_cons]
   split
   ·obtain ⟨h1, h2⟩ := ih (putS P x) (h.put (hf x (by simp))) (fun y hy => hf y (by simp [hy]))
    have h3 := putS_len h x
    exact ⟨h1, by omega⟩
   ·obtain ⟨h1, h2⟩ := ih P h (fun y hy => hf y (by simp [hy]))
    exact ⟨h1, by omega⟩
 have := this l [] good_nil hf
 unfold heldS
 refine ⟨this.1, ?_⟩
 have h2 := this.2
 simp only [List.length_nil] at h2
 omega
theorem entS_good {z : Nat} (hz : z ≤ 10000) : ∀ (X : List It) (b : Nat) (P : List Pl), Good P → (∀ x ∈ X, x.Fits) → b + X.length ≤ 20000 → Good (entS (z : Int) P (b : Int) X) ∧ (entS (z : Int) P (b : Int) X).length ≤ P.length + X.length
 | [], b, P, h, _, _ => ⟨h, Nat.le_refl _⟩
 | x :: X, b, P, h, hf, hb => by
  have hx := hf x (by simp)
  rw [List.length_cons] at hb ⊢
  by_cases hk : x.k = 2
  ·rw [entS_drop hk]
   obtain ⟨h1, h2⟩ := entS_good hz X b (dropS P (x.t, x.b)) (h.drop _) (fun y hy => hf y (by simp [hy])) (by omega)
   have h3 : (dropS P (x.t, x.b)).length ≤ P.length := List.length_filter_le _ _
   exact ⟨h1, by omega⟩
  ·rw [entS_put hk]
   have hp : FitsP ((x.t, x.b), ((z : Int), (b : Int) + 1)) := ⟨⟨hx.1, hx.2.1⟩, by show FitsS _; unfold FitsS I64; constructor <;> simp only <;> constructor <;> omega⟩
   obtain ⟨h1, h2⟩ := entS_good hz X (b + 1) (putS P ((x.t, x.b), ((z : Int), (b : Int) + 1))) (h.put hp) (fun y hy => hf y (by simp [hy])) (by omega)
   have h3 := putS_len h ((x.t, x.b), ((z : Int), (b : Int) + 1))
   push_cast at h1 h2
   exact ⟨h1, by omega⟩
theorem folS_good {X : Fo → List It} {N : Nat} (hN : N ≤ 220) : ∀ (l : List Fo) (q : Int) (P : List Pl), Good P → (∀ f ∈ l, (∃ z : Nat, f.z = z ∧ z ≤ 10000) ∧ (∃ b : Nat, f.b = b ∧ b ≤ 10000) ∧ (X f).length ≤ N ∧ ∀ x ∈ X f, x.Fits) → Good (folS X q P l) ∧ (folS X q P l).length ≤ P.length + N * l.length
 | [], q, P, h, _ => ⟨h, by show P.length ≤ _; omega⟩
 | f :: l, q, P, h, hf => by
  rw [List.length_cons]
  by_cases h1 : f.s = q
  ·rw [folS_same h1]
   obtain ⟨a, b⟩ := folS_good hN l q P h (fun y hy => hf y (by simp [hy]))
   exact ⟨a, by rw [Nat.mul_add]; omega⟩
  ·by_cases h2 : f.s = IntKind.u64.wrap (q + 1)
   ·rw [folS_next h1 h2]
    obtain ⟨⟨z, hz, hz2⟩, ⟨b, hb, hb2⟩, hl, hx⟩ := hf f (by simp)
    rw [hz, hb]
    obtain ⟨g1, g2⟩ := entS_good hz2 (X f) b P h hx (by omega)
    obtain ⟨a, c⟩ := folS_good hN l (IntKind.u64.wrap (q + 1)) _ g1 (fun y hy => hf y (by simp [hy]))
    exact ⟨a, by rw [Nat.mul_add]; omega⟩
   ·rw [folS_stop h1 h2]
    exact ⟨h, by omega⟩
theorem fullTo_mem (zs : List Zn) : ∀ k, ∀ z ∈ fullTo zs k, ∃ i : Nat, z = i ∧ 2 ≤ i ∧ i < k
 | 0, z, h => by simp [fullTo] at h
 | k + 1, z, h => by
  by_cases h2 : 2 ≤ k
  ·by_cases h3 : 0 < (atZ zs (k : Nat)).1.length
   ·rw [fullTo_yes h2 h3] at h
    rcases List.mem_append.1 h with h | h
    ·obtain ⟨i, a, b, c⟩ := fullTo_mem zs k z h
     exact ⟨i, a, b, by omega⟩
    ·simp at h
     exact ⟨k, h, h2, by omega⟩
   ·rw [fullTo_no (by omega)] at h
    obtain ⟨i, a, b, c⟩ := fullTo_mem zs k z h
    exact ⟨i, a, b, by omega⟩
  ·have e : fullTo zs (k + 1) = [] := by
    rcases (show k = 0 ∨ k = 1 by omega) with rfl | rfl
    ·have := fullTo_len zs 2
     show (if _ then _ else _) = _
     simp [fullTo]
    ·exact fullTo_two zs
   rw [e] at h
   simp at h
theorem great_fits {q : Int} (hq : FitsU q) {l : List Fo} (hl : ∀ f ∈ l, FitsU f.s) : FitsU (greatL q l) := by
 unfold greatL
 cases h : l.getLast? with
 | none => exact hq
 | some f => exact hl f (List.mem_of_getLast? h)
section
theorem NIn.cells {k : IntKind} {w w' : World} {a : Option Addr} {n : Nat} {xs : List Int} (h : NIn k w a n xs) (hc : ∀ b o v, a.map (·.block) = some b → w.cell? ⟨b, o, none⟩ = some v → w'.cell? ⟨b, o, none⟩ = some v) : NIn k w' a n xs := by
 obtain ⟨h1, h2, h3, h4⟩ := h
 refine ⟨h1, h2, h3, ?_⟩
 rcases h4 with h4 | ⟨b, off, rfl, h4⟩
 ·exact .inl h4
 ·exact .inr ⟨b, off, rfl, fun i hi => hc b _ _ rfl (h4 i hi)⟩
def SmD (s : Sh) : Prop := s.z ≤ 12 ∧ s.zb ≤ 16 ∧ s.b ≤ 128
instance (s : Sh) : Decidable (SmD s) := by unfold SmD; infer_instance
variable {s : Sh} {zs : List Zn}
theorem atZ_few (hw : Wf s zs) (hs : SmD s) (z : Int) : (atZ zs z).1.length ≤ 16 := by
 unfold atZ
 split
 ·rcases Nat.lt_or_ge z.toNat zs.length with h | h
  ·rw [show zs.getD z.toNat ([], 0) = zs[z.toNat] by simp [List.getD, h]]
   have := (hw.zone _ (List.getElem_mem h)).1
   have := hs.2.1
   omega
  ·rw [show zs.getD z.toNat ([], 0) = ([], 0) by simp [List.getD, List.getElem?_eq_none h]]
   simp
 ·simp
theorem newTo_len (hw : Wf s zs) (hs : SmD s) (q : Int) : ∀ k, (newTo zs q k).length ≤ 16 * k
 | 0 => by simp [newTo]
 | k + 1 => by
  have h1 := newTo_len hw hs q k
  by_cases h2 : 2 ≤ k
  ·rw [newTo_step h2, List.length_append]
   have h3 : (newrZ zs q k (scanL zs (k : Nat))).length ≤ (scanL zs (k : Nat)).length := by
    unfold newrZ
    rw [List.length_map]
    exact List.length_filter_le _ _
   have h4 : (scanL zs (k : Nat)).length ≤ (atZ zs (k : Nat)).1.length := scanP_len zs (k : Nat) _ _
   have h5 := atZ_few hw hs (k : Nat)
   omega
  ·have e : newTo zs q (k + 1) = newTo zs q k := by
    show (if _ then _ else _) = _
    rw [if_neg h2]
   rw [e]
   omega
theorem newTo_few (hw : Wf s zs) (hs : SmD s) (q : Int) : (newTo zs q zs.length).length ≤ 192 := by
 have h1 := newTo_len hw hs q zs.length
 have h2 := hw.len
 have h3 := hs.1
 omega
theorem bestK_few (hw : Wf s zs) (hs : SmD s) : ∀ k, (bestK s zs k).2.1.length ≤ 112
 | 0 => by show ([] : List Pl).length ≤ 112; simp
 | k + 1 => by
  show (bestStep s (bestK s zs k) (zs.getD k ([], 0)).1 (k : Int)).2.1.length ≤ 112
  unfold bestStep
  split
  ·rename_i h
   obtain ⟨⟨h1, h2⟩, _⟩ := h
   obtain ⟨hg, hm⟩ := ckE_zero.1 h1
   have hr : 0 < roomN s ∧ roomN s ≤ 7 := by
    have hp := hw.right.2.2.2.2.1
    have hb := hs.2.2
    unfold roomN roomK
    rw [if_pos (by simp [Powers, PowR] at hp ⊢; omega)]
    have := power_bounds hp
    omega
   have h3 := manyN_all (r := roomN s) (n := (allPs (zs.getD k ([], 0)).1).length) hr.1
   have h4 : mK s (allPs (zs.getD k ([], 0)).1) ≤ 16 := by have := hs.2.1; omega
   have h5 : mK s (allPs (zs.getD k ([], 0)).1) * roomN s ≤ 16 * 7 := Nat.mul_le_mul h4 hr.2
   have h6 : manyN (roomN s) (allPs (zs.getD k ([], 0)).1).length = mK s (allPs (zs.getD k ([], 0)).1) := rfl
   rw [h6] at h3
   exact Nat.le_trans h3 (Nat.le_trans h5 (by decide))
  ·exact bestK_few hw hs k
theorem decX_five {bs : List Int} (h : bs.length ≤ 128) : (decX bs).length ≤ 5 := by
 unfold decX
 split
 ·rename_i hr
  have h1 := hr.bounds
  have hl : (rdIts bs).length = (rdN bs).toNat := rdL_length _ _
  omega
 ·simp
theorem elB_few (hw : Wf s zs) (hs : SmD s) (z : Int) (i : Nat) : (elB zs z i).length ≤ 128 := by
 unfold elB
 cases hr : recB zs (z, (i : Int)) with
 | none => simp
 | some E =>
  obtain ⟨i', j, zn, e1, hz, hj⟩ := blkZ_some (recB_some hr).1
  have h1 := (hw.zone zn (List.mem_of_getElem? hz)).2.2.2 E (List.mem_of_getElem? hj)
  have h2 := hs.2.2
  show E.length ≤ 128
  omega
end
section
/-- The store that a recovery builds, ahead of its checkpoint. -/
noncomputable def recS (s : Sh) (zs : List Zn) (l : List Fo) : St := onG2 s zs (greatL (bestK s zs 2).1 l) (bestK s zs 2).2.2.1 (folS (foX zs) (bestK s zs 2).1 (heldS zs (bestK s zs 2).2.1) l) (fullTo zs zs.length)
/-- What Recover answers. -/
def RvGot (O : Nat → Prop) (W : World) (s : Sh) (zs : List Zn) (e : Ending) (w' : World) : Prop :=
 ((bestK s zs 2).2.2.2 ≠ 0 ∧ e = .returned (.tuple #[.pointer none, .int .u16 (bestK s zs 2).2.2.2]) ∧ Below W.heap.size W w') ∨
 ((bestK s zs 2).2.2.2 = 0 ∧ ∃ (l : List Fo) (k : Bs) (V : World) (c : Nat), (l.map foK).Perm (newTo zs (bestK s zs 2).1 zs.length) ∧ l.Pairwise (fun x y => ltO y x = false) ∧ Below W.heap.size W V ∧ Sv O V k (markM (recS s zs l)).2 c w' ∧ c ≤ 2000 ∧ (markM (recS s zs l)).2.S.length ≤ c ∧ (∀ x, k.has x → W.heap.size ≤ x) ∧
  e = .returned (.tuple #[.pointer (if (markM (recS s zs l)).1 = 0 then some ⟨k.ps, 0, none⟩ else none), .int .u16 (markM (recS s zs l)).1]))
theorem Sv.wide {D0 D1 : Nat → Prop} {V W : World} {k : Bs} {st : St} {c : Nat} (h : Sv D0 V k st c W) (hD : ∀ x, D0 x → D1 x) : Sv D1 V k st c W := by
 obtain ⟨D, h1, h2, h3⟩ := h
 refine ⟨D, h1, fun x hx => (h2 x hx).imp (hD x) id, h3.mono (fun j hj _ => ?_)⟩
 rcases hj with hj | hj
 ·exact .inl (hD j hj)
 ·exact .inr hj
theorem on3_of {O : Nat → Prop} {W : World} {p B : Nat} {s : Sh} {zs : List Zn} (hd : Dv 105 O W p s zs) (hw : Wf s zs) (hlt : ∀ x, O x → x < B) (q : Int) (hq : FitsU q) (sl : Int) (a1 : Option Addr) (n1 c1 : Nat) (l : List Pl) (hl : KIn W a1 n1 l) (hA1 : ∀ y, a1.map (·.block) = some y → B ≤ y ∧ y < W.heap.size) (hn1 : n1 ≤ 90000) (a2 : Option Addr) (n2 c2 : Nat) (f : List Int) (hf : NIn .i64 W a2 n2 f) (hA2 : ∀ y, a2.map (·.block) = some y → B ≤ y ∧ y < W.heap.size) (hn2 : n2 ≤ 1000) :
  Calls Tryz.prog 27 #[.pointer (some ⟨p, 0, none⟩), .int .u64 q, .slice a1 n1 c1, .slice a2 n2 c2, .int .i64 sl] W fun e w' => ∃ (k : Bs) (V : World), e = .returned (.pointer (some ⟨k.ps, 0, none⟩)) ∧ Below W.heap.size W V ∧ Sv (fun x => O x ∧ x < W.heap.size) V k (onG2 s zs q sl l f) n1 w' ∧ ∀ x, k.has x → W.heap.size ≤ x := by
 have no : ∀ y, B ≤ y ∧ y < W.heap.size → ¬ (O y ∨ W.heap.size ≤ y) := fun y hy h => by
  rcases h with h | h
  ·have := hlt y h; omega
  ·omega
 exact on2_of hd hw q hq sl (fun x => O x ∨ W.heap.size ≤ x) (fun x h => .inr h) (fun x h => .inl h) a1 n1 c1 l (fun V hV => hl.out hV (fun b hb => no b (hA1 b hb))) hn1 a2 n2 c2 f (fun V hV => hf.cells (fun b o v hb hv => hV.cell hv (no b (hA2 b hb)))) hn2
section
variable {O : Nat → Prop} {W : World} {p : Nat} {s : Sh} {zs : List Zn}
set_option maxHeartbeats 8000000 in
theorem orecover_of (hd : Dv 105 O W p s zs) (hw : Wf s zs) (hsm : SmD s) (hlt : ∀ x, O x → x < W.heap.size) :
  Calls Tryz.prog 18 #[.pointer (some ⟨p, 0, none⟩)] W (RvGot O W s zs) := by
 have hN : (newTo zs (bestK s zs 2).1 zs.length).length ≤ 192 := newTo_few hw hsm _
 have hP : (bestK s zs 2).2.1.length ≤ 112 := bestK_few hw hsm 2
 have hslot := bestK_slot s zs 2
 have hfq := bestK_fits hd 2
 unfold RvGot recS
 obtain ⟨q0, hq0⟩ : ∃ q0, q0 = (bestK s zs 2).1 := ⟨_, rfl⟩
 obtain ⟨P0, hP0⟩ : ∃ P0, P0 = (bestK s zs 2).2.1 := ⟨_, rfl⟩
 obtain ⟨sl, hsl⟩ : ∃ sl, sl = (bestK s zs 2).2.2.1 := ⟨_, rfl⟩
 obtain ⟨er, her⟩ : ∃ er, er = (bestK s zs 2).2.2.2 := ⟨_, rfl⟩
 have HLd : Hid (Calls Tryz.prog 47 #[.pointer (some ⟨p, 0, none⟩)] W fun e w' => ∃ A n C, e = .returned (.tuple #[.agg #[.int .u64 q0, .slice A n C], .int .i64 sl, .int .u16 er]) ∧ KIn w' A n P0 ∧ n ≤ C ∧ Below W.heap.size W w') := by rw [hq0, hP0, hsl, her]; exact kload_of hd hw
 have HD : Hid (Dv 105 O W p s zs ∧ Wf s zs ∧ SmD s ∧ ∀ x, O x → x < W.heap.size) := ⟨hd, hw, hsm, hlt⟩
 rw [← hq0] at hN hfq
 rw [← hP0] at hP
 rw [← hsl, ← her] at hslot
 rw [← hq0, ← hP0, ← hsl, ← her]
 have HH : Hid ((newTo zs q0 zs.length).length ≤ 192 ∧ P0.length ≤ 112 ∧ FitsU q0 ∧ (er = 0 → ∃ j : Nat, j < 2 ∧ sl = j)) := ⟨hN, hP, hfq, hslot⟩
 have HHe : Hid (∀ V a n c, Below W.heap.size W V → KIn V a n P0 → Calls Tryz.prog 48 #[.pointer (some ⟨p, 0, none⟩), .slice a n c] V fun e w' => ∃ m b1 b2 k, e = .returned (.pointer (some ⟨m, 0, none⟩)) ∧ LmP w' m b1 b2 (heldS zs P0) k ∧ k ≤ n ∧ Below V.heap.size V w' ∧ V.heap.size ≤ m ∧ V.heap.size ≤ b1 ∧ V.heap.size ≤ b2) := fun V a n c hV hk => oheld_of a n c P0 (hd.later hV) hw hk (by have := hk.1; omega)
 have HNw : Hid (∀ V, Below W.heap.size W V → Calls Tryz.prog 49 #[.pointer (some ⟨p, 0, none⟩), .int .u64 q0] V (NwGot zs q0 V)) := fun V hV => onewer_of q0 (hd.later hV) hw (by omega)
 have HFu : Hid (∀ V, Below W.heap.size W V → Calls Tryz.prog 53 #[.pointer (some ⟨p, 0, none⟩)] V fun e w' => ∃ A n C, e = .returned (.slice A n C) ∧ w'.ownsRow V.heap.size 3 1 (.slice A n C) n (kInts .i64 (fullTo zs zs.length)) ∧ n = (fullTo zs zs.length).length ∧ Below V.heap.size V w') := fun V hV => ofull_of (hd.later hV) hw
 clear hd hw hN hP hq0 hP0 hsl her hfq hslot hsm hlt
 by_cases h0 : er = 0
 ·have h0' : (er != 0) = false := by simp [h0]
  go_enter Tryz.func18, Tryz.ntmps18
  go_wp2_with (go_at_call 47; refine HLd.out.mono ?_; rintro e W1 ⟨A, n, C, rfl, hk, hnC, hb1⟩)
  have HV : Hid (Below W.heap.size W (W1.alloc (.cells #[.int .u64 q0, .slice A n C] 78)) ∧ Blk (W1.alloc (.cells #[.int .u64 q0, .slice A n C] 78)) W1.heap.size [.int .u64 q0, .slice A n C] 78 ∧ KIn (W1.alloc (.cells #[.int .u64 q0, .slice A n C] 78)) A n P0) := ⟨hb1.alloc hb1.size _, Blk.new' rfl rfl, hk.below (below_a1 _ _)⟩
  clear hk hb1
  generalize World.alloc W1 _ = V at HV ⊢
  generalize W1.heap.size = ga at HV ⊢
  refine (HHe.out V A n C HV.out.1 HV.out.2.2).mono ?_
  rintro e W2 ⟨m, b1, b2, k, rfl, hm, hkn, hb2, m0, m1, m2⟩
  have kg := HV.out.2.1.below hb2 HV.out.2.1.lt
  have g0 : W2.cell? ⟨ga, 0, none⟩ = some (.int .u64 q0) := kg.cell 0
  have hW2 : Below W.heap.size W W2 := HV.out.1.trans (hb2.mono HV.out.1.size)
  have H2 : Hid (LmP W2 m b1 b2 (heldS zs P0) k ∧ k ≤ n ∧ Below W.heap.size W W2 ∧ W.heap.size ≤ b1 ∧ W.heap.size ≤ b2 ∧ Blk W2 ga [.int .u64 q0, .slice A n C] 78 ∧ n = P0.length ∧ ∀ x ∈ P0, FitsP x) := ⟨hm, hkn, hW2, by have := HV.out.1.size; omega, by have := HV.out.1.size; omega, kg, HV.out.2.2.1.symm, HV.out.2.2.2.2.1⟩
  have hN2 := HNw.out W2 hW2
  clear hm hkn hb2 m0 m1 m2 kg hW2
  go_wp2_with fail
  refine hN2.mono ?_
  rintro e W3 ⟨A2, n2, C2, l, rfl, hfo, hpm, hsr, hit, hA2, hb3⟩
  have k3 : Blk W3 ga [.int .u64 q0, .slice A n C] 78 := H2.out.2.2.2.2.2.1.below hb3 H2.out.2.2.2.2.2.1.lt
  have g3 : W3.cell? ⟨ga, 0, none⟩ = some (.int .u64 q0) := k3.cell 0
  have l1 := H2.out.1.lt b1 (.inr (.inl rfl))
  have l2 := H2.out.1.lt b2 (.inr (.inr rfl))
  have hn2 : n2 ≤ 192 := by have h1 := hfo.1; have h2 := hpm.length_eq; have h3 := HH.out.1; rw [List.length_map] at h2; omega
  have hk2 : k ≤ 112 := by have h1 := H2.out.2.1; have h2 := H2.out.2.2.2.2.2.2.1; have h3 := HH.out.2.1; omega
  have hm3 := H2.out.1.below hb3
  have hg12 : ga ≠ b1 ∧ ga ≠ b2 := ⟨fun e => hm3.m1.no_blk k3 e, fun e => hm3.m2.no_blk k3 e⟩
  have HFo : Hid (∀ f ∈ l, FoOk W3 b1 b2 (foX zs) f) := fun f hf => foX_ok HD.out.2.1 hpm hf (hit f hf).1 (fun h y hy => by have := (hit f hf).2 h y hy; omega)
  have HFw : Hid (Calls Tryz.prog 50 #[.pointer (some ⟨m, 0, none⟩), .int .u64 q0, .slice A2 n2 C2] W3 fun e w' => e = .returned (.tuple #[]) ∧ LmP w' m b1 b2 (folS (foX zs) q0 (heldS zs P0) l) (k + 220 * n2) ∧ Out (Two b1 b2) W3 w') := ofollow_of q0 A2 n2 C2 l (foX zs) m b1 b2 _ k hfo (fun h y hy => by have := hA2 h y hy; omega) HFo.out hm3 (by omega)
  have H3 : Hid (FoIn W3 A2 n2 l ∧ (n2 ≠ 0 → ∀ y, A2.map (·.block) = some y → y ≠ b1 ∧ y ≠ b2) ∧ (l.map foK).Perm (newTo zs q0 zs.length) ∧ l.Pairwise (fun x y => ltO y x = false) ∧ Below W.heap.size W W3 ∧ n2 ≤ 192 ∧ k ≤ 112 ∧ Blk W3 ga [.int .u64 q0, .slice A n C] 78 ∧ ga ≠ b1 ∧ ga ≠ b2) := ⟨hfo, fun h y hy => by have := hA2 h y hy; omega, hpm, hsr, H2.out.2.2.1.trans (hb3.mono H2.out.2.2.1.size), hn2, hk2, k3, hg12⟩
  clear hfo hpm hsr hit hA2 hb3 k3 l1 l2 hn2 hk2 hm3 hg12
  go_wp2_with fail
  refine HFw.out.mono ?_
  rintro e W4 ⟨rfl, hm4, ho4⟩
  have tw : ∀ y, y ≠ b1 ∧ y ≠ b2 → ¬ Two b1 b2 y := fun y hy hT => by rcases hT with h | h; exact hy.1 h; exact hy.2 h
  have k4 : Blk W4 ga [.int .u64 q0, .slice A n C] 78 := ho4.blk H3.out.2.2.2.2.2.2.2.1 (tw ga H3.out.2.2.2.2.2.2.2.2)
  have g4 : W4.cell? ⟨ga, 0, none⟩ = some (.int .u64 q0) := k4.cell 0
  have hW4 : Below W.heap.size W W4 := H3.out.2.2.2.2.1.trans (ho4.below H3.out.2.2.2.2.1.size (fun j hj => by have a1 := H2.out.2.2.2.1; have a2 := H2.out.2.2.2.2.1; rcases hj with h | h <;> omega))
  have hlen : l.length = n2 := H3.out.1.1
  have hgd := folS_good (X := foX zs) (N := 5) (by omega) l q0 (heldS zs P0) (held_good zs P0 H2.out.2.2.2.2.2.2.2).1 (fun f hf => ⟨(HFo.out f hf).z, (HFo.out f hf).b, decX_five (elB_few HD.out.2.1 HD.out.2.2.1 f.z f.b.toNat), (HFo.out f hf).it.2.2.1⟩)
  have hS0 := (held_good zs P0 H2.out.2.2.2.2.2.2.2).2
  have H4 : Hid (LmP W4 m b1 b2 (folS (foX zs) q0 (heldS zs P0) l) (k + 220 * n2) ∧ FoIn W4 A2 n2 l ∧ Below W.heap.size W W4 ∧ Good (folS (foX zs) q0 (heldS zs P0) l) ∧ (folS (foX zs) q0 (heldS zs P0) l).length ≤ 1100 ∧ FitsU (greatL q0 l)) := ⟨hm4, H3.out.1.outO ho4 (fun h y hy => tw y (H3.out.2.1 h y hy)), hW4, hgd.1, by have h1 := hgd.2; have h2 := H3.out.2.2.2.2.2.1; have h3 := HH.out.2.1; omega, great_fits HH.out.2.2.1 (fun f hf => by
   obtain ⟨z, b, e, _⟩ := newTo_mem (H3.out.2.2.1.mem_iff.1 (List.mem_map_of_mem hf))
   have : f.s = decS (elB zs (z : Nat) b) := by have := congrArg (·.1) e; exact this
   rw [this]
   exact decS_fits (elB_bytes HD.out.1 _ _))⟩
  have HGr : Hid (Calls Tryz.prog 51 #[.int .u64 q0, .slice A2 n2 C2] W4 fun e w' => e = .returned (.int .u64 (greatL q0 l)) ∧ w' = W4) := ogreat_of q0 A2 n2 C2 l H4.out.2.1
  clear tw k4 hm4 ho4 hW4 hlen hgd hS0
  go_wp2_with fail
  refine HGr.out.mono ?_
  rintro e W5 ⟨rfl, rfl⟩
  go_wp2_with fail
  refine (mAll_of m b1 b2 _ _ _ H4.out.1 (by have h1 := H3.out.2.2.2.2.2.1; have h2 := H3.out.2.2.2.2.2.2.1; omega)).mono ?_
  rintro e W6 ⟨A3, n3, C3, rfl, ow3, hb6⟩
  have hn3 : (folS (foX zs) q0 (heldS zs P0) l).length = n3 := (own_pl ow3).1
  have H6 : Hid (KIn W6 A3 n3 (folS (foX zs) q0 (heldS zs P0) l) ∧ (∀ y, A3.map (·.block) = some y → W.heap.size ≤ y ∧ y < W6.heap.size) ∧ Below W.heap.size W W6 ∧ n3 ≤ 1100) := ⟨own_kin ow3 (by have := H4.out.2.2.2.2.1; unfold maxLen; omega) H4.out.2.2.2.1.fits, fun y hy => by
   rcases A3 with _ | ⟨y0, off, fr⟩
   ·simp at hy
   ·simp at hy
    subst hy
    have h1 := ow3.lt y0 rfl
    have h2 := H4.out.2.2.1.size
    omega, H4.out.2.2.1.trans (hb6.mono H4.out.2.2.1.size), by have := H4.out.2.2.2.2.1; omega⟩
  clear ow3 hb6 hn3
  go_wp2_with fail
  refine (HFu.out _ H6.out.2.2.1).mono ?_
  rintro e W7 ⟨A4, n4, C4, rfl, ow4, hn4, hb7⟩
  have hl4 := fullTo_len zs zs.length
  have hz4 : zs.length ≤ 12 := by have h1 := HD.out.2.1.len; have h2 := HD.out.2.2.1.1; omega
  have H7 : Hid (KIn W7 A3 n3 (folS (foX zs) q0 (heldS zs P0) l) ∧ (∀ y, A3.map (·.block) = some y → W.heap.size ≤ y ∧ y < W7.heap.size) ∧ Below W.heap.size W W7 ∧ NIn .i64 W7 A4 n4 (fullTo zs zs.length) ∧ (∀ y, A4.map (·.block) = some y → W.heap.size ≤ y ∧ y < W7.heap.size) ∧ n4 ≤ 12) := ⟨H6.out.1.below hb7, fun y hy => by have h1 := H6.out.2.1 y hy; have h2 := hb7.size; omega, H6.out.2.2.1.trans (hb7.mono H6.out.2.2.1.size), own_nin ow4 (by unfold maxLen; omega) (fun z hz => by
    obtain ⟨i, rfl, h1, h2⟩ := fullTo_mem zs _ z hz
    simp [Lit.wf, IntKind.min, IntKind.max, IntKind.signed, IntKind.bits]
    omega), fun y hy => by
   rcases A4 with _ | ⟨y0, off, fr⟩
   ·simp at hy
   ·simp at hy
    subst hy
    have h1 := ow4.lt y0 rfl
    have h2 := H6.out.2.2.1.size
    omega, by omega⟩
  have HOn := on3_of (HD.out.1.later H7.out.2.2.1) HD.out.2.1 HD.out.2.2.2 (greatL q0 l) H4.out.2.2.2.2.2 sl A3 n3 C3 _ H7.out.1 H7.out.2.1 (by have := H6.out.2.2.2; omega) A4 n4 C4 _ H7.out.2.2.2.1 H7.out.2.2.2.2.1 (by have := H7.out.2.2.2.2.2; omega)
  clear ow4 hn4 hb7 hl4 hz4
  go_wp2_with fail
  refine HOn.mono ?_
  rintro e W8 ⟨k8, V8, rfl, hb8, hsv8, hk8⟩
  have hpg := puts_good _ [] good_nil (H7.out.1.2.2.1)
  obtain ⟨st, hst⟩ : ∃ st, st = onG2 s zs (greatL q0 l) sl (folS (foX zs) q0 (heldS zs P0) l) (fullTo zs zs.length) := ⟨_, rfl⟩
  rw [← hst] at hsv8
  have hSl : st.S.length ≤ n3 := by
   rw [hst]
   show (List.foldl putS [] _).length ≤ n3
   have h1 := hpg.2
   have h2 := H7.out.1.1
   simp only [List.length_nil] at h1
   omega
  have hso : st.o = 0 ∨ st.o = 1 := by
   rw [hst]
   show sl = 0 ∨ sl = 1
   obtain ⟨j, h1, h2⟩ := HH.out.2.2.2 h0
   omega
  obtain ⟨D8, hv8, hD8, ho8⟩ := hsv8.wide (D1 := O) (fun x hx => hx.1)
  have hMk := smark_of hv8 (by have := H6.out.2.2.2; omega) (by have := H6.out.2.2.2; omega) hso
  obtain ⟨mk, hmk⟩ : ∃ mk, mk = (markM st).1 := ⟨_, rfl⟩
  have hmS : (markM st).2.S.length ≤ n3 := hSl
  have H8 : Hid (Below W.heap.size W V8 ∧ (∀ x, k8.has x → W.heap.size ≤ x) ∧ n3 ≤ 1100 ∧ (markM st).2.S.length ≤ n3 ∧ st = onG2 s zs (greatL q0 l) sl (folS (foX zs) q0 (heldS zs P0) l) (fullTo zs zs.length) ∧ mk = (markM st).1 ∧ (∀ w', Sv D8 W8 k8 (markM st).2 n3 w' → Sv O V8 k8 (markM st).2 n3 w')) := ⟨H7.out.2.2.1.trans (hb8.mono H7.out.2.2.1.size), fun x hx => by have h1 := hk8 x hx; have h2 := H7.out.2.2.1.size; omega, H6.out.2.2.2, hmS, hst, hmk, fun w' h => h.next hD8 ho8⟩
  have HMk : Hid (Calls Tryz.prog 54 #[.pointer (some ⟨k8.ps, 0, none⟩)] W8 fun e w' => e = .returned (.int .u16 mk) ∧ Sv D8 W8 k8 (markM st).2 n3 w') := by rw [hmk]; exact hMk
  obtain ⟨ps, hps⟩ : ∃ ps, ps = k8.ps := ⟨_, rfl⟩
  rw [← hps] at HMk ⊢
  have HP : Hid (ps = k8.ps) := hps
  clear hpg hst hSl hso hsv8 hv8 hD8 ho8 hMk hmk hmS hb8 hk8 hps HOn
  by_cases hm0 : mk = 0
  ·have hm0' : (mk != 0) = false := by simp [hm0]
   go_wp2_with (go_at_call 54; refine HMk.out.mono ?_; rintro e W9 ⟨rfl, hsv9⟩)
   have HS9 := H8.out.2.2.2.2.2.2 _ hsv9
   go_ret2
   refine .inr ⟨h0, l, k8, V8, n3, H3.out.2.2.1, H3.out.2.2.2.1, H8.out.1, ?_, by have := H8.out.2.2.1; omega, ?_, H8.out.2.1, ?_⟩
   ·rw [← H8.out.2.2.2.2.1]; exact HS9
   ·rw [← H8.out.2.2.2.2.1]; exact H8.out.2.2.2.1
   ·rw [← H8.out.2.2.2.2.1, ← H8.out.2.2.2.2.2.1, if_pos hm0, hm0, HP.out]
    rfl
  ·have hm0' : (mk != 0) = true := by simp [hm0]
   go_wp2_with (go_at_call 54; refine HMk.out.mono ?_; rintro e W9 ⟨rfl, hsv9⟩)
   have HS9 := H8.out.2.2.2.2.2.2 _ hsv9
   go_ret2
   refine .inr ⟨h0, l, k8, V8, n3, H3.out.2.2.1, H3.out.2.2.2.1, H8.out.1, ?_, by have := H8.out.2.2.1; omega, ?_, H8.out.2.1, ?_⟩
   ·rw [← H8.out.2.2.2.2.1]; exact HS9
   ·rw [← H8.out.2.2.2.2.1]; exact H8.out.2.2.2.1
   ·rw [← H8.out.2.2.2.2.1, ← H8.out.2.2.2.2.2.1, if_neg hm0]
    rfl
 ·have h0' : (er != 0) = true := by simp [h0]
  go_enter Tryz.func18, Tryz.ntmps18
  go_wp2_with (go_at_call 47; refine HLd.out.mono ?_; rintro e W1 ⟨A, n, C, rfl, hk, hnC, hb1⟩)
  go_ret2
  exact .inl ⟨h0, rfl, hb1.alloc hb1.size _⟩
end
end
end Go.Proofs.YtcdnjeiamihhbabGreat
