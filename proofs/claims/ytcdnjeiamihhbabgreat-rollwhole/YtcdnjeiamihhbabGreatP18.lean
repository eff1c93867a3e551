/- P18 -/
import Derived.Test.YtcdnjeiamihhbabGreatP17
set_option linter.unusedVariables false
set_option maxRecDepth 4000
namespace Go.Proofs.YtcdnjeiamihhbabGreat
open Go.RowKit Go.Shelf
open Classical in
noncomputable def dkE (s : Sh) (l : List (List Int)) : Int := if IsK s l then 0 else 141
open Classical in
noncomputable def dkS (s : Sh) (l : List (List Int)) : Int := if IsK s l then allSeq l else 0
open Classical in
noncomputable def dkX (s : Sh) (l : List (List Int)) : List Pl := if IsK s l then allPs l else []
def DecK (w : World) (s : Sh) (l : List (List Int)) (e : Ending) (w' : World) : Prop :=
 ∃ A n C, e = .returned (.tuple #[.agg #[.int .u64 (dkS s l), .slice A n C], .int .u16 (dkE s l)]) ∧ KIn w' A n (dkX s l) ∧ n ≤ C ∧ Below w.heap.size w w'
theorem isK_rd {s : Sh} {l : List (List Int)} (h : IsK s l) (hf : ∀ b ∈ l, ∀ z ∈ b, Fits8 z) : RdK s l := by
 obtain ⟨hg, hm⟩ := ckE_zero.1 h.1
 have hr := roomN_pos hg.1
 have hp := pow_bounds (show s.b ∈ PowR from hg.1.2.2.2.2.1)
 refine ⟨hg.1, by rw [h.length]; exact hm, fun b hb => ?_⟩
 obtain ⟨i, hi⟩ := List.getElem?_of_mem hb
 obtain ⟨h1, _, _, _, h5, _, h7, _⟩ := h.each hf hi
 exact ⟨by rw [h7]; omega, h1, by rw [h7]; omega⟩
theorem bs_fits {w : World} {a : Option Addr} {n : Nat} {l : List (List Int)} (h : BsIn w a n l) : ∀ b ∈ l, ∀ z ∈ b, Fits8 z := by
 intro b hb
 obtain ⟨i, hi⟩ := List.getElem?_of_mem hb
 obtain ⟨_, _, _, _, _, _, _, hbin, _⟩ := h.at hi
 exact hbin.2.2.1
theorem kcatchD_idle (p q : Addr) (w : World) :
  CallsD Tryz.prog 146 #[.pointer (some p), .pointer (some q)] .returning w fun e u' w' => e = .returned (.tuple #[]) ∧ u' = .returning ∧ w' = w := by
 refine callsD_of_wpS Tryz.func146 rfl fun c₀ cs hu => ?_
 apply wpS_seq
 apply wpS_region
 simp [wpOpsS, go_sem, recoverD, hu, Tryz.ntmps146, Exit.thenS]
 refine wpS_cond (t := false) (by simp [Act.eval, Array.replicate]) ?_
 simp only [Bool.false_eq_true, if_false]
 refine wpS_of_wp (wp_skip ?_)
 cases c₀
 simp_all [bodyPostS, results, Tryz.results146]
theorem kcatchD_panicking (p q : Nat) (u : TypeId) (pv : Value) (older : List PanicEntry) (w : World) (v0 v1 v2 : Value)
  (hp : Blk w p [v0, v1] 78) (hq : w.cell? ⟨q, 0, none⟩ = some v2) (zq : w.frozen? ⟨q, 0, none⟩ = false) (hne : q ≠ p) :
  CallsD Tryz.prog 146 #[.pointer (some ⟨p, 0, none⟩), .pointer (some ⟨q, 0, none⟩)] (.panicking ({ v := .iface u pv, recovered := false } :: older)) w fun e u' w' =>
   e = .returned (.tuple #[]) ∧ u' = .panicking ({ v := .iface u pv, recovered := true } :: older) ∧ w' = ((w.setCell ⟨p, 0, none⟩ (.int .u64 0)).setCell ⟨p, 1, none⟩ (.slice none 0 0)).setCell ⟨q, 0, none⟩ (.int .u16 141) := by
 have e0 : w.cell? ⟨p, 0, none⟩ = some v0 := hp.cell 0
 have e1 : w.cell? ⟨p, 1, none⟩ = some v1 := hp.cell 1
 have z0 := hp.frozen 0
 have z1 := hp.frozen 1
 refine callsD_of_wpS Tryz.func146 rfl fun c₀ cs hu => ?_
 apply wpS_seq
 apply wpS_region
 simp [wpOpsS, go_sem, recoverD, hu, Tryz.ntmps146, Exit.thenS]
 refine wpS_cond (t := true) (by simp [Act.eval, Array.replicate]) ?_
 simp only [if_true]
 apply wpS_region
 simp [wpOpsS, go_sem, e0, e1, z0, z1, hq, zq, bodyPostS, results, Tryz.results146]
def defDk (q : Nat) : List Deferred := [{ target := .fn (.func 146) #[.pointer (some ⟨q + 1, 0, none⟩), .pointer (some ⟨q + 2, 0, none⟩)], args := #[] }]
theorem kdec_results (q : Nat) (tmps : Array Value) (w : World) (v0 v1 v2 : Value) (h2 : tmps.getD 4 undef = .pointer (some ⟨q + 1, 0, none⟩)) (h3 : tmps.getD 5 undef = .pointer (some ⟨q + 2, 0, none⟩)) (hb : Blk w (q + 1) [v0, v1] 78) (c2 : w.cell? ⟨q + 2, 0, none⟩ = some v2) :
  (results Tryz.f91 tmps).run Tryz.prog w = .ok (.tuple #[.agg #[v0, v1], v2]) w := by
 have hl := run_loadVar_row (P := Tryz.prog) w (q + 1) 78 78 [v0, v1].toArray (0, 0) _ hb Tryz.underlying78 rfl (by rw [Tryz.info_state]; simp)
 have l2 : (loadVar 30 ⟨q + 2, 0, none⟩).run Tryz.prog w = .ok v2 w := by simp [go_sem, c2]
 have : (results Tryz.f91 tmps).run Tryz.prog w = ((asAddr (tmps.getD 4 undef)).run Tryz.prog w).andThen fun a w₁ => ((loadVar 78 a).run Tryz.prog w₁).andThen fun z w₂ => ((asAddr (tmps.getD 5 undef)).run Tryz.prog w₂).andThen fun a w₃ => ((loadVar 30 a).run Tryz.prog w₃).andThen fun y w₄ => .ok (.tuple #[z, y]) w₄ := by
  simp only [results, Tryz.results91]
  simp [Sem.run_bind, Result.andThen]
 rw [this, h2, h3]
 simp [asAddr, hl, l2, Result.andThen]
theorem kdec_died {q : Nat} {w V : World} {s : Sh} {l : List (List Int)} {v0 v1 : Value} {E : Int} {t : ByteArray} (hq : q = w.heap.size) (hb : Blk V (q + 1) [v0, v1] 78) (he : Blk V (q + 2) [.int .u16 E] 30) (bel : Below w.heap.size w V) (hno : ¬ IsK s l) (tmps : Array Value) (h2 : tmps.getD 4 undef = .pointer (some ⟨q + 1, 0, none⟩)) (h3 : tmps.getD 5 undef = .pointer (some ⟨q + 2, 0, none⟩)) :
  Leaves Tryz.prog Tryz.f91 tmps (DecK w s l) (defDk q) (.panicking [{ v := .iface 9 (.string t), recovered := false }]) V := by
 refine leaves_cons (f := 146) (args := #[.pointer (some ⟨q + 1, 0, none⟩), .pointer (some ⟨q + 2, 0, none⟩)]) (by simp) (by simp [go_sem]) ?_
 refine (kcatchD_panicking (q + 1) (q + 2) 9 _ [] _ _ _ _ hb (he.cell 0) (he.frozen 0) (by omega)).mono ?_
 rintro e u' w'' ⟨rfl, rfl, rfl⟩
 have k1 := ((hb.set 0 (.int .u64 0)).set 1 (.slice none 0 0)).set_other (a := ⟨q + 2, 0, none⟩) (by show q + 1 ≠ q + 2; omega) (.int .u16 141)
 have k2 := ((he.set_other (a := ⟨q + 1, 0, none⟩) (by show q + 2 ≠ q + 1; omega) (.int .u64 0)).set_other (a := ⟨q + 1, 1, none⟩) (by show q + 2 ≠ q + 1; omega) (.slice none 0 0)).set 0 (.int .u16 141)
 refine ⟨_, kdec_results q tmps _ _ _ _ h2 h3 k1 (k2.cell 0), none, 0, 0, ?_⟩
 unfold dkS dkE dkX
 rw [if_neg hno, if_neg hno, if_neg hno]
 exact ⟨rfl, kin_none _, Nat.le_refl _, ((bel.setCell (by show w.heap.size ≤ q + 1; omega) _).setCell (by show w.heap.size ≤ q + 1; omega) _).setCell (by show w.heap.size ≤ q + 2; omega) _⟩
theorem kdec_told {q : Nat} {w V : World} {s : Sh} {l : List (List Int)} {A : Option Addr} {n C : Nat} (hb : Blk V (q + 1) [.int .u64 (allSeq l), .slice A n C] 78) (he : Blk V (q + 2) [.int .u16 0] 30) (bel : Below w.heap.size w V) (hg : IsK s l) (hi : KIn V A n (allPs l)) (hnC : n ≤ C) (tmps : Array Value) (h2 : tmps.getD 4 undef = .pointer (some ⟨q + 1, 0, none⟩)) (h3 : tmps.getD 5 undef = .pointer (some ⟨q + 2, 0, none⟩)) :
  Leaves Tryz.prog Tryz.f91 tmps (DecK w s l) (defDk q) .returning V := by
 refine leaves_cons (f := 146) (args := #[.pointer (some ⟨q + 1, 0, none⟩), .pointer (some ⟨q + 2, 0, none⟩)]) (by simp) (by simp [go_sem]) ?_
 refine (kcatchD_idle _ _ _).mono ?_
 rintro e u' w'' ⟨rfl, rfl, rfl⟩
 refine ⟨_, kdec_results q tmps _ _ _ _ h2 h3 hb (he.cell 0), A, n, C, ?_⟩
 unfold dkS dkE dkX
 rw [if_pos hg, if_pos hg, if_pos hg]
 exact ⟨rfl, hi, hnC, bel⟩
/-- Places stay where a block is written that holds none. -/
theorem KIn.set {W : World} {A : Option Addr} {m : Nat} {xs : List Pl} (h : KIn W A m xs) {q : Nat} (hq : ∀ j t, W.cell? ⟨q, j, none⟩ ≠ some (.int .u32 t)) (i : Nat) (v : Value) : KIn (W.setCell ⟨q, i, none⟩ v) A m xs := by
 obtain ⟨h1, h2, h3, h4⟩ := h
 refine ⟨h1, h2, h3, ?_⟩
 rcases h4 with h4 | ⟨b, off, ha, hc⟩
 ·exact .inl h4
 ·refine .inr ⟨b, off, ha, fun k x hx j u hu => ?_⟩
  have hne : b ≠ q := by
   rintro rfl
   exact hq _ _ (hc k x hx 0 _ rfl)
  exact kept_set (hc k x hx j u hu) hne
theorem st_not {W : World} {q : Nat} {v : Int} {a : Option Addr} {n c : Nat} {t : TypeId} (h : Blk W q [.int .u64 v, .slice a n c] t) : ∀ j t, W.cell? ⟨q, j, none⟩ ≠ some (.int .u32 t) := by
 intro j t e
 rw [h.cell] at e
 match j, e with
 | 0, e => cases e
 | 1, e => cases e
 | j + 2, e => simp at e
theorem err_not {W : World} {q : Nat} {v : Int} {t : TypeId} (h : Blk W q [.int .u16 v] t) : ∀ j t, W.cell? ⟨q, j, none⟩ ≠ some (.int .u32 t) := by
 intro j t e
 rw [h.cell] at e
 match j, e with
 | 0, e => cases e
 | j + 1, e => simp at e
theorem ckL_short {s : Sh} {seq : Int} {ps : List Pl} (h : ckE s ps = 0) : Short (ckL s seq ps) := by
 obtain ⟨hg, hm⟩ := ckE_zero.1 h
 have hr := roomN_pos hg.1
 have hp := pow_bounds (show s.b ∈ PowR from hg.1.2.2.2.2.1)
 intro D hD
 obtain ⟨i, hi, rfl⟩ := ckL_mem hD
 have := partK_length_le (roomN s) i ps
 rw [ckB_length (by omega)]
 omega
set_option maxHeartbeats 2000000 in
theorem kdecode_of (s : Sh) (a : Option Addr) (n c : Nat) (l : List (List Int)) (w : World) (hz : -9223372036854775808 ≤ s.z) (hl : BsIn w a n l) :
  Calls Tryz.prog 91 #[.agg (shL s).toArray, .slice a n c] w (DecK w s l) := by
 have hmf : ∀ (fn : Fn) (first cap : Array Value) (w : World), (Instr.makeFunc fn first cap).run Tryz.prog w = .ok (.func fn first cap) w := fun _ _ _ _ => rfl
 obtain ⟨q, hq⟩ : ∃ q, q = w.heap.size := ⟨_, rfl⟩
 have HW : Hid (Blk (((w.alloc (.cells #[.int .i64 s.z, .int .i64 s.zb, .int .i64 s.b, .int .i64 s.r] 23)).alloc (.cells #[.int .u64 0, .slice none 0 0] 78)).alloc (.cells #[.int .u16 0] 30)) q (shL s) 23 ∧ Blk (((w.alloc (.cells #[.int .i64 s.z, .int .i64 s.zb, .int .i64 s.b, .int .i64 s.r] 23)).alloc (.cells #[.int .u64 0, .slice none 0 0] 78)).alloc (.cells #[.int .u16 0] 30)) (q + 1) [.int .u64 0, .slice none 0 0] 78 ∧ Blk (((w.alloc (.cells #[.int .i64 s.z, .int .i64 s.zb, .int .i64 s.b, .int .i64 s.r] 23)).alloc (.cells #[.int .u64 0, .slice none 0 0] 78)).alloc (.cells #[.int .u16 0] 30)) (q + 2) [.int .u16 0] 30 ∧ Below w.heap.size w (((w.alloc (.cells #[.int .i64 s.z, .int .i64 s.zb, .int .i64 s.b, .int .i64 s.r] 23)).alloc (.cells #[.int .u64 0, .slice none 0 0] 78)).alloc (.cells #[.int .u16 0] 30))) :=
  ⟨((Blk.new' hq.symm rfl).alloc _).alloc _, (Blk.new' (by simp [hq]) rfl).alloc _, Blk.new' (by simp [hq]) rfl, (((Below.refl _ _).alloc (Nat.le_refl _) _).alloc (by simp) _).alloc (by simp; omega) _⟩
 have H : Hid (BsIn w a n l ∧ q = w.heap.size ∧ -9223372036854775808 ≤ s.z) := ⟨hl, hq, hz⟩
 clear hl hz
 simp only [shL]
 go_enter_defers Tryz.func91, Tryz.ntmps91
 go_upto_region 2 with fail
 rw [← hq]
 have e2 : q + 1 + 1 = q + 2 := rfl
 rw [e2]
 clear hq e2
 generalize hW : World.alloc (World.alloc (World.alloc w _) _) _ = W at HW ⊢
 clear hW
 have c0 : W.cell? ⟨q, 0, none⟩ = some (.int .i64 s.z) := HW.out.1.cell 0
 have c1 : W.cell? ⟨q, 1, none⟩ = some (.int .i64 s.zb) := HW.out.1.cell 1
 have c2 : W.cell? ⟨q, 2, none⟩ = some (.int .i64 s.b) := HW.out.1.cell 2
 have c3 : W.cell? ⟨q, 3, none⟩ = some (.int .i64 s.r) := HW.out.1.cell 3
 go_wp2_with fail
 refine (kread_of s a n c l W H.out.2.2 (H.out.1.below HW.out.2.2.2)).mono ?_
 rintro e W2 ⟨b2, (⟨hno, he⟩ | ⟨hok, A, m, C, rfl, it2, hmC⟩)⟩
 ·unfold diedE at he
  subst he
  exact kdec_died H.out.2.1 (HW.out.2.1.below b2 HW.out.2.1.lt) (HW.out.2.2.1.below b2 HW.out.2.2.1.lt) (HW.out.2.2.2.trans (b2.mono HW.out.2.2.2.size)) (fun h => hno (isK_rd h (bs_fits H.out.1))) _ rfl rfl
 ·have k0 := HW.out.1.below b2 HW.out.1.lt
  have k1 := HW.out.2.1.below b2 HW.out.2.1.lt
  have k2 := HW.out.2.2.1.below b2 HW.out.2.2.1.lt
  have hqw := H.out.2.1
  have d0 : W2.cell? ⟨q + 1, 0, none⟩ = some (.int .u64 0) := k1.cell 0
  have d1 : W2.cell? ⟨q + 1, 1, none⟩ = some (.slice none 0 0) := k1.cell 1
  have z0 := k1.frozen 0
  have z1 := k1.frozen 1
  obtain ⟨S, hS⟩ : ∃ S, S = allSeq l := ⟨_, rfl⟩
  rw [← hS]
  have k1a : Blk (W2.setCell ⟨q + 1, 0, none⟩ (.int .u64 S)) (q + 1) [.int .u64 S, .slice none 0 0] 78 := k1.set 0 _
  have k1b : Blk ((W2.setCell ⟨q + 1, 0, none⟩ (.int .u64 S)).setCell ⟨q + 1, 1, none⟩ (.slice A m C)) (q + 1) [.int .u64 S, .slice A m C] 78 := k1a.set 1 _
  have k2b := (k2.set_other (a := ⟨q + 1, 0, none⟩) (by show q + 2 ≠ q + 1; omega) (.int .u64 S)).set_other (a := ⟨q + 1, 1, none⟩) (by show q + 2 ≠ q + 1; omega) (.slice A m C)
  have k0b := (k0.set_other (a := ⟨q + 1, 0, none⟩) (by show q ≠ q + 1; omega) (.int .u64 S)).set_other (a := ⟨q + 1, 1, none⟩) (by show q ≠ q + 1; omega) (.slice A m C)
  have it3 := (it2.set (st_not k1) 0 (.int .u64 S)).set (st_not k1a) 1 (.slice A m C)
  have bel3 := ((HW.out.2.2.2.trans (b2.mono HW.out.2.2.2.size)).setCell (p := ⟨q + 1, 0, none⟩) (by show w.heap.size ≤ q + 1; omega) (.int .u64 S)).setCell (p := ⟨q + 1, 1, none⟩) (by show w.heap.size ≤ q + 1; omega) (.slice A m C)
  have HS : Hid (S = allSeq l) := hS
  clear k1 k2 k0 k1a it2 hS hqw c0 c1 c2 c3
  go_upto_region 3 with fail
  generalize hW3 : World.setCell (World.setCell W2 _ _) _ _ = W3 at k1b k2b k0b it3 bel3 ⊢
  have H3 : Hid (Blk W3 (q + 1) [.int .u64 S, .slice A m C] 78 ∧ Blk W3 (q + 2) [.int .u16 0] 30 ∧ KIn W3 A m (allPs l) ∧ Below w.heap.size w W3 ∧ S = allSeq l ∧ m ≤ C ∧ Blk W3 q (shL s) 23) := ⟨k1b, k2b, it3, bel3, HS.out, hmC, k0b⟩
  have c0 : W3.cell? ⟨q + 1, 0, none⟩ = some (.int .u64 S) := k1b.cell 0
  have c1 : W3.cell? ⟨q + 1, 1, none⟩ = some (.slice A m C) := k1b.cell 1
  have s0 : W3.cell? ⟨q, 0, none⟩ = some (.int .i64 s.z) := k0b.cell 0
  have s1 : W3.cell? ⟨q, 1, none⟩ = some (.int .i64 s.zb) := k0b.cell 1
  have s2 : W3.cell? ⟨q, 2, none⟩ = some (.int .i64 s.b) := k0b.cell 2
  have s3 : W3.cell? ⟨q, 3, none⟩ = some (.int .i64 s.r) := k0b.cell 3
  clear k1b k2b k0b it3 bel3 d0 d1 z0 z1 b2 hW3 hok hmC
  go_wp2_with fail
  refine (kencode_of s S A m C (allPs l) W3 H.out.2.2 (by rw [H3.out.2.2.2.2.1]; exact allSeq_fits l (bs_fits H.out.1)) H3.out.2.2.1 H3.out.2.2.2.2.2.1).mono ?_
  rintro e W4 ⟨v, rfl, r4, b4⟩
  obtain ⟨E, hE⟩ : ∃ E, E = ckE s (allPs l) := ⟨_, rfl⟩
  rw [← hE]
  obtain ⟨av, cv, hv⟩ := r4.slice
  obtain ⟨nv, hnv⟩ : ∃ nv, nv = (ckO s S (allPs l)).length := ⟨_, rfl⟩
  rw [← hnv] at hv
  subst hv
  have k1 := H3.out.1.below b4 H3.out.1.lt
  have k2 := H3.out.2.1.below b4 H3.out.2.1.lt
  have hqw := H.out.2.1
  have hlt := H3.out.2.1.lt
  have H4 : Hid (Blk (W4.setCell ⟨q + 2, 0, none⟩ (.int .u16 E)) (q + 1) [.int .u64 S, .slice A m C] 78 ∧ Blk (W4.setCell ⟨q + 2, 0, none⟩ (.int .u16 E)) (q + 2) [.int .u16 E] 30 ∧ KIn (W4.setCell ⟨q + 2, 0, none⟩ (.int .u16 E)) A m (allPs l) ∧ Below w.heap.size w (W4.setCell ⟨q + 2, 0, none⟩ (.int .u16 E)) ∧ E = ckE s (allPs l) ∧ RowAt (fun j => W3.heap.size ≤ j) (W4.setCell ⟨q + 2, 0, none⟩ (.int .u16 E)) (.slice av nv cv) (ckO s S (allPs l))) :=
   ⟨k1.set_other (by show q + 1 ≠ q + 2; omega) _, k2.set 0 _, (H3.out.2.2.1.below b4).set (err_not k2) 0 _, (H3.out.2.2.2.1.trans (b4.mono H3.out.2.2.2.1.size)).setCell (by show w.heap.size ≤ q + 2; omega) _, hE, out_row' k2 0 _ r4 hlt⟩
  have d2 : W4.cell? ⟨q + 2, 0, none⟩ = some (.int .u16 0) := k2.cell 0
  have z2 := k2.frozen 0
  clear k1 k2 r4 b4 hE hqw hlt c0 c1 s0 s1 s2 s3 hnv
  go_upto_region 4 with fail
  generalize hW5 : World.setCell W4 _ _ = W5 at H4 ⊢
  clear hW5 d2 z2
  have d2 : W5.cell? ⟨q + 2, 0, none⟩ = some (.int .u16 E) := H4.out.2.1.cell 0
  have z2 := H4.out.2.1.frozen 0
  have c0 : W5.cell? ⟨q + 1, 0, none⟩ = some (.int .u64 S) := H4.out.1.cell 0
  have c1 : W5.cell? ⟨q + 1, 1, none⟩ = some (.slice A m C) := H4.out.1.cell 1
  have z0 := H4.out.1.frozen 0
  have z1 := H4.out.1.frozen 1
  by_cases hE0 : E = 0
  ·have hck : ckE s (allPs l) = 0 := by rw [← H4.out.2.2.2.2.1]; exact hE0
   have hrow := H4.out.2.2.2.2.2
   have hO : ckO s S (allPs l) = ckL s S (allPs l) := by unfold ckO; rw [if_pos hck]
   rw [hO] at hrow
   have cE := keq_of av nv cv (ckL s S (allPs l)) a n c l W5 (hrow.bsin (ckL_short hck)) (H.out.1.below H4.out.2.2.2.1)
   have hiff : IsK s l ↔ ckL s S (allPs l) = l := by
    unfold IsK
    rw [H3.out.2.2.2.2.1]
    exact ⟨fun h => h.2, fun h => ⟨hck, h⟩⟩
   clear hrow hO hck
   subst hE0
   by_cases hr : IsK s l
   ·have HR : Hid (IsK s l) := hr
    rw [decide_eq_true (hiff.1 hr)] at cE
    clear hr hiff
    go_upto_region 6 with (go_at_call 148; refine cE.mono ?_; rintro e W6 ⟨rfl, hw6⟩; replace hw6 := hw6.symm; subst hw6)
    have HZ : Hid (Blk (((W5.setCell ⟨q + 1, 0, none⟩ (.int .u64 S)).setCell ⟨q + 1, 1, none⟩ (.slice A m C)).setCell ⟨q + 2, 0, none⟩ (.int .u16 0)) (q + 1) [.int .u64 (allSeq l), .slice A m C] 78 ∧ Blk (((W5.setCell ⟨q + 1, 0, none⟩ (.int .u64 S)).setCell ⟨q + 1, 1, none⟩ (.slice A m C)).setCell ⟨q + 2, 0, none⟩ (.int .u16 0)) (q + 2) [.int .u16 0] 30 ∧ Below w.heap.size w (((W5.setCell ⟨q + 1, 0, none⟩ (.int .u64 S)).setCell ⟨q + 1, 1, none⟩ (.slice A m C)).setCell ⟨q + 2, 0, none⟩ (.int .u16 0)) ∧ KIn (((W5.setCell ⟨q + 1, 0, none⟩ (.int .u64 S)).setCell ⟨q + 1, 1, none⟩ (.slice A m C)).setCell ⟨q + 2, 0, none⟩ (.int .u16 0)) A m (allPs l)) := by
     have e1 : Blk (W5.setCell ⟨q + 1, 0, none⟩ (.int .u64 S)) (q + 1) [.int .u64 S, .slice A m C] 78 := H4.out.1.set 0 _
     have e2 : Blk ((W5.setCell ⟨q + 1, 0, none⟩ (.int .u64 S)).setCell ⟨q + 1, 1, none⟩ (.slice A m C)) (q + 1) [.int .u64 S, .slice A m C] 78 := e1.set 1 _
     have e3 := (H4.out.2.1.set_other (a := ⟨q + 1, 0, none⟩) (by show q + 2 ≠ q + 1; omega) (.int .u64 S)).set_other (a := ⟨q + 1, 1, none⟩) (by show q + 2 ≠ q + 1; omega) (.slice A m C)
     have hq := H.out.2.1
     refine ⟨by rw [← H3.out.2.2.2.2.1]; exact e2.set_other (by show q + 1 ≠ q + 2; omega) _, e3.set 0 _, ((H4.out.2.2.2.1.setCell (by show w.heap.size ≤ q + 1; omega) _).setCell (by show w.heap.size ≤ q + 1; omega) _).setCell (by show w.heap.size ≤ q + 2; omega) _, ((H4.out.2.2.1.set (st_not H4.out.1) 0 _).set (st_not e1) 1 _).set (err_not e3) 0 _⟩
    clear cE
    go_wp2
    exact kdec_told HZ.out.1 HZ.out.2.1 HZ.out.2.2.1 HR.out HZ.out.2.2.2 H3.out.2.2.2.2.2.1 _ rfl rfl
   ·have HR : Hid (¬ IsK s l) := hr
    rw [decide_eq_false (fun h => hr (hiff.2 h))] at cE
    clear hr hiff
    go_wp2_with (go_at_call 148; refine cE.mono ?_; rintro e W6 ⟨rfl, hw6⟩; replace hw6 := hw6.symm; subst hw6)
    exact kdec_died H.out.2.1 H4.out.1 H4.out.2.1 H4.out.2.2.2.1 HR.out _ rfl rfl
  ·have hEb : (E != 0) = true := by simp [hE0]
   have HR : Hid (¬ IsK s l) := fun h => hE0 (by rw [H4.out.2.2.2.2.1]; exact h.1)
   clear hE0
   go_wp2
   exact kdec_died H.out.2.1 H4.out.1 H4.out.2.1 H4.out.2.2.2.1 HR.out _ rfl rfl
end Go.Proofs.YtcdnjeiamihhbabGreat
