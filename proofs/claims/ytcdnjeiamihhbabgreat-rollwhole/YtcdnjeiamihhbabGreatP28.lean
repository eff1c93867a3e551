/- P28 -/
import Derived.Test.YtcdnjeiamihhbabGreatP27
set_option linter.unusedVariables false
set_option maxRecDepth 4000
namespace Go.Proofs.YtcdnjeiamihhbabGreat
open Go.RowKit
/-! ### Encode -/
theorem catchE_idle (p q : Addr) (w : World) :
  CallsD Tryz.prog 108 #[.pointer (some p), .pointer (some q)] .returning w fun e u' w' => e = .returned (.tuple #[]) ∧ u' = .returning ∧ w' = w := by
 refine callsD_of_wpS Tryz.func108 rfl fun c₀ cs hu => ?_
 apply wpS_seq
 apply wpS_region
 simp [wpOpsS, go_sem, recoverD, hu, Tryz.ntmps108, Exit.thenS]
 refine wpS_cond (t := false) (by simp [Act.eval, Array.replicate]) ?_
 simp only [Bool.false_eq_true, if_false]
 refine wpS_of_wp (wp_skip ?_)
 cases c₀
 simp_all [bodyPostS, results, Tryz.results108]
theorem catchE_panicking (p q : Nat) (u : TypeId) (pv : Value) (older : List PanicEntry) (w : World) (v0 v1 : Value)
  (hp : w.cell? ⟨p, 0, none⟩ = some v0) (hq : w.cell? ⟨q, 0, none⟩ = some v1) (zp : w.frozen? ⟨p, 0, none⟩ = false) (zq : w.frozen? ⟨q, 0, none⟩ = false) (hne : q ≠ p) :
  CallsD Tryz.prog 108 #[.pointer (some ⟨p, 0, none⟩), .pointer (some ⟨q, 0, none⟩)] (.panicking ({ v := .iface u pv, recovered := false } :: older)) w fun e u' w' =>
   e = .returned (.tuple #[]) ∧ u' = .panicking ({ v := .iface u pv, recovered := true } :: older) ∧ w' = (w.setCell ⟨p, 0, none⟩ (.slice none 0 0)).setCell ⟨q, 0, none⟩ (.int .u16 110) := by
 refine callsD_of_wpS Tryz.func108 rfl fun c₀ cs hu => ?_
 apply wpS_seq
 apply wpS_region
 simp [wpOpsS, go_sem, recoverD, hu, Tryz.ntmps108, Exit.thenS]
 refine wpS_cond (t := true) (by simp [Act.eval, Array.replicate]) ?_
 simp only [if_true]
 apply wpS_region
 simp [wpOpsS, go_sem, hp, hq, zp, zq, bodyPostS, results, Tryz.results108]
def REncGot (w : World) (seq : Int) (xs : List It) (b : Int) (e : Ending) (w' : World) : Prop :=
 ∃ A n C, e = .returned (.tuple #[.slice A n C, .int .u16 (encE xs b)]) ∧ w'.ownsRow w.heap.size 5 1 (.slice A n C) n (u8s (encB seq xs b)) ∧ Below w.heap.size w w' ∧ C = n
def rdefE (q : Nat) : List Deferred := [{ target := .fn (.func 108) #[.pointer (some ⟨q + 1, 0, none⟩), .pointer (some ⟨q + 2, 0, none⟩)], args := #[] }]
theorem enc_results (q : Nat) (tmps : Array Value) (w : World) (v1 v2 : Value) (h4 : tmps.getD 4 undef = .pointer (some ⟨q + 1, 0, none⟩)) (h5 : tmps.getD 5 undef = .pointer (some ⟨q + 2, 0, none⟩)) (c1 : w.cell? ⟨q + 1, 0, none⟩ = some v1) (c2 : w.cell? ⟨q + 2, 0, none⟩ = some v2) :
  (results Tryz.f71 tmps).run Tryz.prog w = .ok (.tuple #[v1, v2]) w := by
 have k4 : tmps[4]?.getD undef = .pointer (some ⟨q + 1, 0, none⟩) := by simpa using h4
 have k5 : tmps[5]?.getD undef = .pointer (some ⟨q + 2, 0, none⟩) := by simpa using h5
 simp [results, Tryz.results71, go_sem, k4, k5, c1, c2]
theorem enc_died {q : Nat} {w V : World} {seq : Int} {xs : List It} {b : Int} (hq : q = w.heap.size) (hb : Blk V (q + 1) [.slice none 0 0] 51) (he : Blk V (q + 2) [.int .u16 0] 30) (bel : Below w.heap.size w V) (hno : ¬ GoodR xs b) (tmps : Array Value) (h4 : tmps.getD 4 undef = .pointer (some ⟨q + 1, 0, none⟩)) (h5 : tmps.getD 5 undef = .pointer (some ⟨q + 2, 0, none⟩)) :
  Leaves Tryz.prog Tryz.f71 tmps (REncGot w seq xs b) (rdefE q) (.panicking [{ v := .iface 9 (.string noBlock), recovered := false }]) V := by
 refine leaves_cons (f := 108) (args := #[.pointer (some ⟨q + 1, 0, none⟩), .pointer (some ⟨q + 2, 0, none⟩)]) (by simp) (by simp [go_sem]) ?_
 refine (catchE_panicking (q + 1) (q + 2) 9 _ [] _ _ _ (hb.cell 0) (he.cell 0) (hb.frozen 0) (he.frozen 0) (by omega)).mono ?_
 rintro e u' w'' ⟨rfl, rfl, rfl⟩
 have k1 := (hb.set 0 (.slice none 0 0)).set_other (a := ⟨q + 2, 0, none⟩) (by show q + 1 ≠ q + 2; omega) (.int .u16 110)
 have k2 := (he.set_other (a := ⟨q + 1, 0, none⟩) (by show q + 2 ≠ q + 1; omega) (.slice none 0 0)).set 0 (.int .u16 110)
 refine ⟨_, enc_results q tmps _ _ _ h4 h5 (k1.cell 0) (k2.cell 0), none, 0, 0, ?_⟩
 unfold encE encB
 rw [if_neg hno, if_neg hno]
 exact ⟨rfl, World.ownsRow_nil _ _ _ _, (bel.setCell (by show w.heap.size ≤ q + 1; omega) _).setCell (by show w.heap.size ≤ q + 2; omega) _, rfl⟩
theorem enc_told {q : Nat} {w V : World} {seq : Int} {xs : List It} {b : Int} {pb N : Nat} (hq : q = w.heap.size) (hb : Blk V (q + 1) [.slice (some ⟨pb, 0, none⟩) N N] 51) (he : Blk V (q + 2) [.int .u16 0] 30) (bel : Below w.heap.size w V) (hg : GoodR xs b) (hN : b = N) (ow : V.ownsRow w.heap.size 5 1 (.slice (some ⟨pb, 0, none⟩) N N) N (u8s (encL seq xs N))) (tmps : Array Value) (h4 : tmps.getD 4 undef = .pointer (some ⟨q + 1, 0, none⟩)) (h5 : tmps.getD 5 undef = .pointer (some ⟨q + 2, 0, none⟩)) :
  Leaves Tryz.prog Tryz.f71 tmps (REncGot w seq xs b) (rdefE q) .returning V := by
 refine leaves_cons (f := 108) (args := #[.pointer (some ⟨q + 1, 0, none⟩), .pointer (some ⟨q + 2, 0, none⟩)]) (by simp) (by simp [go_sem]) ?_
 refine (catchE_idle _ _ _).mono ?_
 rintro e u' w'' ⟨rfl, rfl, rfl⟩
 refine ⟨_, enc_results q tmps _ _ _ h4 h5 (hb.cell 0) (he.cell 0), some ⟨pb, 0, none⟩, N, N, ?_⟩
 unfold encE encB
 rw [if_pos hg, if_pos hg, hN]
 exact ⟨rfl, ow, bel, rfl⟩
set_option maxHeartbeats 2000000 in
theorem encode_of (seq : Int) (A : Option Addr) (n C : Nat) (xs : List It) (b : Int) (w : World) (hs : FitsU seq) (hi : ItsIn w A n xs) :
  Calls Tryz.prog 71 #[.agg #[.int .u64 seq, .slice A n C], .int .i64 b] w (REncGot w seq xs b) := by
 have hmf : ∀ (fn : Fn) (first cap : Array Value) (w : World), (Instr.makeFunc fn first cap).run Tryz.prog w = .ok (.func fn first cap) w := fun _ _ _ _ => rfl
 obtain ⟨q, hq⟩ : ∃ q, q = w.heap.size := ⟨_, rfl⟩
 have r0 : Blk (((w.alloc (.cells #[.int .u64 seq, .slice A n C] 47)).alloc (.cells #[.slice none 0 0] 51)).alloc (.cells #[.int .u16 0] 30)) q [.int .u64 seq, .slice A n C] 47 := ((Blk.new' hq.symm rfl).alloc _).alloc _
 have r1 : Blk (((w.alloc (.cells #[.int .u64 seq, .slice A n C] 47)).alloc (.cells #[.slice none 0 0] 51)).alloc (.cells #[.int .u16 0] 30)) (q + 1) [.slice none 0 0] 51 := (Blk.new' (by simp [hq]) rfl).alloc _
 have r2 : Blk (((w.alloc (.cells #[.int .u64 seq, .slice A n C] 47)).alloc (.cells #[.slice none 0 0] 51)).alloc (.cells #[.int .u16 0] 30)) (q + 2) [.int .u16 0] 30 := Blk.new' (by simp [hq]) rfl
 have bw : Below w.heap.size w (((w.alloc (.cells #[.int .u64 seq, .slice A n C] 47)).alloc (.cells #[.slice none 0 0] 51)).alloc (.cells #[.int .u16 0] 30)) := (((Below.refl _ _).alloc (Nat.le_refl _) _).alloc (by simp) _).alloc (by simp; omega) _
 have H : Hid (FitsU seq ∧ ItsIn w A n xs ∧ q = w.heap.size) := ⟨hs, hi, hq⟩
 clear hs hi
 go_enter_defers Tryz.func71, Tryz.ntmps71
 go_upto_region 2 with fail
 rw [← hq]
 have e2 : q + 1 + 1 = q + 2 := rfl
 rw [e2]
 clear hq e2
 generalize hW : World.alloc (World.alloc (World.alloc w _) _) _ = W at r0 r1 r2 bw ⊢
 have HW : Hid (Blk W (q + 1) [.slice none 0 0] 51 ∧ Blk W (q + 2) [.int .u16 0] 30 ∧ Below w.heap.size w W) := ⟨r1, r2, bw⟩
 have c0 : W.cell? ⟨q, 0, none⟩ = some (.int .u64 seq) := r0.cell 0
 have c1 : W.cell? ⟨q, 1, none⟩ = some (.slice A n C) := r0.cell 1
 clear r0 r1 r2 bw hW
 go_wp2_with fail
 refine (written_of seq A n C xs b W H.out.1 (H.out.2.1.below HW.out.2.2)).mono ?_
 rintro e W2 ⟨b2, (⟨hno, he⟩ | ⟨hg, pb, N, hN, rfl, ow⟩)⟩
 ·unfold diedE at he
  subst he
  exact enc_died H.out.2.2 (HW.out.1.below b2 HW.out.1.lt) (HW.out.2.1.below b2 HW.out.2.1.lt) (HW.out.2.2.trans (b2.mono HW.out.2.2.size)) hno _ rfl rfl
 ·have k1 := HW.out.1.below b2 HW.out.1.lt
  have k2 := HW.out.2.1.below b2 HW.out.2.1.lt
  have d1 : W2.cell? ⟨q + 1, 0, none⟩ = some (.slice none 0 0) := k1.cell 0
  have d2 : W2.cell? ⟨q + 2, 0, none⟩ = some (.int .u16 0) := k2.cell 0
  have z1 := k1.frozen 0
  have z2 := k2.frozen 0
  have hlt := HW.out.2.1.lt
  have HZ : Hid (Blk ((W2.setCell ⟨q + 1, 0, none⟩ (.slice (some ⟨pb, 0, none⟩) N N)).setCell ⟨q + 2, 0, none⟩ (.int .u16 0)) (q + 1) [.slice (some ⟨pb, 0, none⟩) N N] 51 ∧ Blk ((W2.setCell ⟨q + 1, 0, none⟩ (.slice (some ⟨pb, 0, none⟩) N N)).setCell ⟨q + 2, 0, none⟩ (.int .u16 0)) (q + 2) [.int .u16 0] 30 ∧
    Below w.heap.size w ((W2.setCell ⟨q + 1, 0, none⟩ (.slice (some ⟨pb, 0, none⟩) N N)).setCell ⟨q + 2, 0, none⟩ (.int .u16 0)) ∧ ((W2.setCell ⟨q + 1, 0, none⟩ (.slice (some ⟨pb, 0, none⟩) N N)).setCell ⟨q + 2, 0, none⟩ (.int .u16 0)).ownsRow w.heap.size 5 1 (.slice (some ⟨pb, 0, none⟩) N N) N (u8s (encL seq xs N)) ∧ GoodR xs b ∧ b = N) :=
   ⟨(k1.set 0 _).set_other (by show q + 1 ≠ q + 2; omega) _, (k2.set_other (by show q + 2 ≠ q + 1; omega) _).set 0 _, ((HW.out.2.2.trans (b2.mono HW.out.2.2.size)).setCell (by show w.heap.size ≤ q + 1; have := H.out.2.2; omega) _).setCell (by show w.heap.size ≤ q + 2; have := H.out.2.2; omega) _,
    own_lowerN (ownsRow_setCell_below (ownsRow_setCell_below ow (by show q + 1 < W.heap.size; omega) _) (by show q + 2 < W.heap.size; omega) _) HW.out.2.2.size, hg, hN⟩
  clear k1 k2 b2 ow hg hN hlt
  go_wp2
  exact enc_told H.out.2.2 HZ.out.1 HZ.out.2.1 HZ.out.2.2.1 HZ.out.2.2.2.2.1 HZ.out.2.2.2.2.2 HZ.out.2.2.2.1 _ rfl rfl
/-! ### Decode -/
theorem catchD_idle (p q : Addr) (w : World) :
  CallsD Tryz.prog 110 #[.pointer (some p), .pointer (some q)] .returning w fun e u' w' => e = .returned (.tuple #[]) ∧ u' = .returning ∧ w' = w := by
 refine callsD_of_wpS Tryz.func110 rfl fun c₀ cs hu => ?_
 apply wpS_seq
 apply wpS_region
 simp [wpOpsS, go_sem, recoverD, hu, Tryz.ntmps110, Exit.thenS]
 refine wpS_cond (t := false) (by simp [Act.eval, Array.replicate]) ?_
 simp only [Bool.false_eq_true, if_false]
 refine wpS_of_wp (wp_skip ?_)
 cases c₀
 simp_all [bodyPostS, results, Tryz.results110]
theorem catchD_panicking (p q : Nat) (u : TypeId) (pv : Value) (older : List PanicEntry) (w : World) (v0 v1 v2 : Value)
  (hp : Blk w p [v0, v1] 47) (hq : w.cell? ⟨q, 0, none⟩ = some v2) (zq : w.frozen? ⟨q, 0, none⟩ = false) (hne : q ≠ p) :
  CallsD Tryz.prog 110 #[.pointer (some ⟨p, 0, none⟩), .pointer (some ⟨q, 0, none⟩)] (.panicking ({ v := .iface u pv, recovered := false } :: older)) w fun e u' w' =>
   e = .returned (.tuple #[]) ∧ u' = .panicking ({ v := .iface u pv, recovered := true } :: older) ∧ w' = ((w.setCell ⟨p, 0, none⟩ (.int .u64 0)).setCell ⟨p, 1, none⟩ (.slice none 0 0)).setCell ⟨q, 0, none⟩ (.int .u16 111) := by
 have e0 : w.cell? ⟨p, 0, none⟩ = some v0 := hp.cell 0
 have e1 : w.cell? ⟨p, 1, none⟩ = some v1 := hp.cell 1
 have z0 := hp.frozen 0
 have z1 := hp.frozen 1
 refine callsD_of_wpS Tryz.func110 rfl fun c₀ cs hu => ?_
 apply wpS_seq
 apply wpS_region
 simp [wpOpsS, go_sem, recoverD, hu, Tryz.ntmps110, Exit.thenS]
 refine wpS_cond (t := true) (by simp [Act.eval, Array.replicate]) ?_
 simp only [if_true]
 apply wpS_region
 simp [wpOpsS, go_sem, e0, e1, z0, z1, hq, zq, bodyPostS, results, Tryz.results110]
def DecGot (w : World) (bs : List Int) (e : Ending) (w' : World) : Prop :=
 ∃ A n C, e = .returned (.tuple #[.agg #[.int .u64 (decS bs), .slice A n C], .int .u16 (decE bs)]) ∧ ItsIn w' A n (decX bs) ∧ Below w.heap.size w w' ∧ Fresh w.heap.size A n
def defD (q : Nat) : List Deferred := [{ target := .fn (.func 110) #[.pointer (some ⟨q, 0, none⟩), .pointer (some ⟨q + 1, 0, none⟩)], args := #[] }]
theorem dec_results (q : Nat) (tmps : Array Value) (w : World) (v0 v1 v2 : Value) (h2 : tmps.getD 2 undef = .pointer (some ⟨q, 0, none⟩)) (h3 : tmps.getD 3 undef = .pointer (some ⟨q + 1, 0, none⟩)) (hb : Blk w q [v0, v1] 47) (c2 : w.cell? ⟨q + 1, 0, none⟩ = some v2) :
  (results Tryz.f73 tmps).run Tryz.prog w = .ok (.tuple #[.agg #[v0, v1], v2]) w := by
 have hl := run_loadVar_row (P := Tryz.prog) w q 47 47 [v0, v1].toArray (0, 0) _ hb Tryz.underlying47 rfl (by rw [Tryz.info_record]; simp)
 have l2 : (loadVar 30 ⟨q + 1, 0, none⟩).run Tryz.prog w = .ok v2 w := by simp [go_sem, c2]
 have : (results Tryz.f73 tmps).run Tryz.prog w = ((asAddr (tmps.getD 2 undef)).run Tryz.prog w).andThen fun a w₁ => ((loadVar 47 a).run Tryz.prog w₁).andThen fun z w₂ => ((asAddr (tmps.getD 3 undef)).run Tryz.prog w₂).andThen fun a w₃ => ((loadVar 30 a).run Tryz.prog w₃).andThen fun y w₄ => .ok (.tuple #[z, y]) w₄ := by
  simp only [results, Tryz.results73]
  simp [Sem.run_bind, Result.andThen]
 rw [this, h2, h3]
 simp [asAddr, hl, l2, Result.andThen]
theorem dec_died {q : Nat} {w V : World} {bs : List Int} {v0 v1 : Value} {s : ByteArray} (hq : q = w.heap.size) (hb : Blk V q [v0, v1] 47) (he : Blk V (q + 1) [.int .u16 0] 30) (bel : Below w.heap.size w V) (hno : ¬ IsR bs) (tmps : Array Value) (h2 : tmps.getD 2 undef = .pointer (some ⟨q, 0, none⟩)) (h3 : tmps.getD 3 undef = .pointer (some ⟨q + 1, 0, none⟩)) :
  Leaves Tryz.prog Tryz.f73 tmps (DecGot w bs) (defD q) (.panicking [{ v := .iface 9 (.string s), recovered := false }]) V := by
 refine leaves_cons (f := 110) (args := #[.pointer (some ⟨q, 0, none⟩), .pointer (some ⟨q + 1, 0, none⟩)]) (by simp) (by simp [go_sem]) ?_
 refine (catchD_panicking q (q + 1) 9 _ [] _ _ _ _ hb (he.cell 0) (he.frozen 0) (by omega)).mono ?_
 rintro e u' w'' ⟨rfl, rfl, rfl⟩
 have k1 := ((hb.set 0 (.int .u64 0)).set 1 (.slice none 0 0)).set_other (a := ⟨q + 1, 0, none⟩) (by show q ≠ q + 1; omega) (.int .u16 111)
 have k2 := ((he.set_other (a := ⟨q, 0, none⟩) (by show q + 1 ≠ q; omega) (.int .u64 0)).set_other (a := ⟨q, 1, none⟩) (by show q + 1 ≠ q; omega) (.slice none 0 0)).set 0 (.int .u16 111)
 refine ⟨_, dec_results q tmps _ _ _ _ h2 h3 k1 (k2.cell 0), none, 0, 0, ?_⟩
 unfold decS decE decX
 rw [if_neg hno, if_neg hno, if_neg hno]
 exact ⟨rfl, itsIn_none _, ((bel.setCell (by show w.heap.size ≤ q; omega) _).setCell (by show w.heap.size ≤ q; omega) _).setCell (by show w.heap.size ≤ q + 1; omega) _, fun h => (h rfl).elim⟩
theorem dec_told {q : Nat} {w V : World} {bs : List Int} {A : Option Addr} {n C : Nat} (hb : Blk V q [.int .u64 (rdSeq bs), .slice A n C] 47) (he : Blk V (q + 1) [.int .u16 0] 30) (bel : Below w.heap.size w V) (hg : IsR bs) (hi : ItsIn V A n (rdIts bs)) (hfr : Fresh w.heap.size A n) (tmps : Array Value) (h2 : tmps.getD 2 undef = .pointer (some ⟨q, 0, none⟩)) (h3 : tmps.getD 3 undef = .pointer (some ⟨q + 1, 0, none⟩)) :
  Leaves Tryz.prog Tryz.f73 tmps (DecGot w bs) (defD q) .returning V := by
 refine leaves_cons (f := 110) (args := #[.pointer (some ⟨q, 0, none⟩), .pointer (some ⟨q + 1, 0, none⟩)]) (by simp) (by simp [go_sem]) ?_
 refine (catchD_idle _ _ _).mono ?_
 rintro e u' w'' ⟨rfl, rfl, rfl⟩
 refine ⟨_, dec_results q tmps _ _ _ _ h2 h3 hb (he.cell 0), A, n, C, ?_⟩
 unfold decS decE decX
 rw [if_pos hg, if_pos hg, if_pos hg]
 exact ⟨rfl, hi, bel, hfr⟩
theorem isR_ok {bs : List Int} (h : IsR bs) : RdOk bs := by
 have := h.bounds
 exact ⟨by omega, h.magic, by omega⟩
theorem ItsIn.set {W : World} {A : Option Addr} {m : Nat} {xs : List It} (h : ItsIn W A m xs) {q : Nat} (hq : ∀ j t, W.cell? ⟨q, j, none⟩ ≠ some (.int .u32 t)) (i : Nat) (v : Value) : ItsIn (W.setCell ⟨q, i, none⟩ v) A m xs := by
 obtain ⟨h1, h2, h3, h4⟩ := h
 refine ⟨h1, h2, h3, ?_⟩
 rcases h4 with h4 | ⟨b, off, ha, hc⟩
 ·exact .inl h4
 ·refine .inr ⟨b, off, ha, fun k x hx j u hu => ?_⟩
  have hne : b ≠ q := by
   rintro rfl
   exact hq _ _ (hc k x hx 0 _ rfl)
  exact kept_set (hc k x hx j u hu) hne
theorem rec_not {W : World} {q : Nat} {v : Int} {a : Option Addr} {n c : Nat} {t : TypeId} (h : Blk W q [.int .u64 v, .slice a n c] t) : ∀ j t, W.cell? ⟨q, j, none⟩ ≠ some (.int .u32 t) := by
 intro j t e
 rw [h.cell] at e
 match j, e with
 | 0, e => cases e
 | 1, e => cases e
 | j + 2, e => simp at e
set_option maxHeartbeats 2000000 in
theorem decode_of (a : Option Addr) (n c : Nat) (bs : List Int) (w : World) (hx : BIn w a n bs) (hnil : a = none → n = 0 ∧ c = 0) (hnc : n ≤ c) (hn : n ≤ 100000) :
  Calls Tryz.prog 73 #[.slice a n c] w (DecGot w bs) := by
 have hmf : ∀ (fn : Fn) (first cap : Array Value) (w : World), (Instr.makeFunc fn first cap).run Tryz.prog w = .ok (.func fn first cap) w := fun _ _ _ _ => rfl
 obtain ⟨q, hq⟩ : ∃ q, q = w.heap.size := ⟨_, rfl⟩
 have r0 : Blk ((w.alloc (.cells #[.int .u64 0, .slice none 0 0] 47)).alloc (.cells #[.int .u16 0] 30)) q [.int .u64 0, .slice none 0 0] 47 := (Blk.new' hq.symm rfl).alloc _
 have r1 : Blk ((w.alloc (.cells #[.int .u64 0, .slice none 0 0] 47)).alloc (.cells #[.int .u16 0] 30)) (q + 1) [.int .u16 0] 30 := Blk.new' (by simp [hq]) rfl
 have bw : Below w.heap.size w ((w.alloc (.cells #[.int .u64 0, .slice none 0 0] 47)).alloc (.cells #[.int .u16 0] 30)) := ((Below.refl _ _).alloc (Nat.le_refl _) _).alloc (by simp) _
 have H : Hid (BIn w a n bs ∧ (a = none → n = 0 ∧ c = 0) ∧ n ≤ c ∧ q = w.heap.size) := ⟨hx, hnil, hnc, hq⟩
 clear hx hnil hnc
 go_enter_defers Tryz.func73, Tryz.ntmps73
 go_upto_region 2 with fail
 rw [← hq]
 clear hq
 generalize hW : World.alloc (World.alloc w _) _ = W at r0 r1 bw ⊢
 have HW : Hid (Blk W q [.int .u64 0, .slice none 0 0] 47 ∧ Blk W (q + 1) [.int .u16 0] 30 ∧ Below w.heap.size w W) := ⟨r0, r1, bw⟩
 clear r0 r1 bw hW
 go_wp2_with fail
 refine (cread_of a n c bs W (H.out.1.below HW.out.2.2) H.out.2.1 H.out.2.2.1 hn).mono ?_
 rintro e W2 ⟨b2, (⟨hno, he⟩ | ⟨hok, A, m, C, rfl, it2, fr2⟩)⟩
 ·unfold diedE at he
  subst he
  exact dec_died H.out.2.2.2 (HW.out.1.below b2 HW.out.1.lt) (HW.out.2.1.below b2 HW.out.2.1.lt) (HW.out.2.2.trans (b2.mono HW.out.2.2.size)) (fun h => hno (isR_ok h)) _ rfl rfl
 ·have k1 := HW.out.1.below b2 HW.out.1.lt
  have k2 := HW.out.2.1.below b2 HW.out.2.1.lt
  have hlt := HW.out.2.1.lt
  have d0 : W2.cell? ⟨q, 0, none⟩ = some (.int .u64 0) := k1.cell 0
  have d1 : W2.cell? ⟨q, 1, none⟩ = some (.slice none 0 0) := k1.cell 1
  have z0 := k1.frozen 0
  have z1 := k1.frozen 1
  obtain ⟨S, hS⟩ : ∃ S, S = rdSeq bs := ⟨_, rfl⟩
  rw [← hS]
  have k1a : Blk (W2.setCell ⟨q, 0, none⟩ (.int .u64 S)) q [.int .u64 S, .slice none 0 0] 47 := k1.set 0 _
  have k1b : Blk ((W2.setCell ⟨q, 0, none⟩ (.int .u64 S)).setCell ⟨q, 1, none⟩ (.slice A m C)) q [.int .u64 S, .slice A m C] 47 := k1a.set 1 _
  have k2b := (k2.set_other (a := ⟨q, 0, none⟩) (by show q + 1 ≠ q; omega) (.int .u64 S)).set_other (a := ⟨q, 1, none⟩) (by show q + 1 ≠ q; omega) (.slice A m C)
  have it3 := (it2.set (rec_not k1) 0 (.int .u64 S)).set (rec_not k1a) 1 (.slice A m C)
  have bel3 := ((HW.out.2.2.trans (b2.mono HW.out.2.2.size)).setCell (p := ⟨q, 0, none⟩) (by show w.heap.size ≤ q; have := H.out.2.2.2; omega) (.int .u64 S)).setCell (p := ⟨q, 1, none⟩) (by show w.heap.size ≤ q; have := H.out.2.2.2; omega) (.slice A m C)
  have HFr : Hid (Fresh w.heap.size A m) := fun hn y hy => by
   have h1 := fr2 hn y hy
   have h2 := HW.out.2.2.size
   omega
  have HS : Hid (S = rdSeq bs) := hS
  clear k1 k2 k1a it2 hS fr2
  go_upto_region 3 with fail
  generalize hW3 : World.setCell (World.setCell W2 _ _) _ _ = W3 at k1b k2b it3 bel3 ⊢
  have H3 : Hid (Blk W3 q [.int .u64 S, .slice A m C] 47 ∧ Blk W3 (q + 1) [.int .u16 0] 30 ∧ ItsIn W3 A m (rdIts bs) ∧ Below w.heap.size w W3 ∧ S = rdSeq bs ∧ bs.length = n) := ⟨k1b, k2b, it3, bel3, HS.out, H.out.1.1⟩
  have c0 : W3.cell? ⟨q, 0, none⟩ = some (.int .u64 S) := k1b.cell 0
  have c1 : W3.cell? ⟨q, 1, none⟩ = some (.slice A m C) := k1b.cell 1
  clear k1b k2b it3 bel3 d0 d1 z0 z1 b2 hlt hW3 hok
  go_wp2_with fail
  refine (written_of S A m C (rdIts bs) (n : Int) W3 (by rw [H3.out.2.2.2.2.1]; exact rdSeq_fits H.out.1.2.2.1) H3.out.2.2.1).mono ?_
  rintro e W4 ⟨b4, (⟨hno, he⟩ | ⟨hg, pb, N, hN, rfl, ow⟩)⟩
  ·unfold diedE at he
   subst he
   exact dec_died H.out.2.2.2 (H3.out.1.below b4 H3.out.1.lt) (H3.out.2.1.below b4 H3.out.2.1.lt) (H3.out.2.2.2.1.trans (b4.mono H3.out.2.2.2.1.size)) (fun h => hno (by have := h.1; rw [H3.out.2.2.2.2.2] at this; exact this)) _ rfl rfl
  ·obtain rfl : n = N := by omega
   have k1 := H3.out.1.below b4 H3.out.1.lt
   have k2 := H3.out.2.1.below b4 H3.out.2.1.lt
   have H4 : Hid (Blk W4 q [.int .u64 S, .slice A m C] 47 ∧ Blk W4 (q + 1) [.int .u16 0] 30 ∧ ItsIn W4 A m (rdIts bs) ∧ Below w.heap.size w W4 ∧ GoodR (rdIts bs) (n : Int)) := ⟨k1, k2, H3.out.2.2.1.below b4, H3.out.2.2.2.1.trans (b4.mono H3.out.2.2.2.1.size), hg⟩
   have cE := equal_of (some ⟨pb, 0, none⟩) n n (encL S (rdIts bs) n) a n c bs W4 (own_bin ow (by unfold maxLen; omega) (enc_fits _ _ _)) (H.out.1.below H4.out.2.2.2.1)
   have hiff : IsR bs ↔ encL S (rdIts bs) n = bs := by
    unfold IsR
    rw [H3.out.2.2.2.2.2, H3.out.2.2.2.2.1]
    exact ⟨fun h => h.2, fun h => ⟨H4.out.2.2.2.2, h⟩⟩
   have c0 : W4.cell? ⟨q, 0, none⟩ = some (.int .u64 S) := k1.cell 0
   have c1 : W4.cell? ⟨q, 1, none⟩ = some (.slice A m C) := k1.cell 1
   have z0 := k1.frozen 0
   have z1 := k1.frozen 1
   have d2 : W4.cell? ⟨q + 1, 0, none⟩ = some (.int .u16 0) := k2.cell 0
   have z2 := k2.frozen 0
   clear k1 k2 ow hg b4 hN
   by_cases hr : IsR bs
   ·have HR : Hid (IsR bs) := hr
    rw [decide_eq_true (hiff.1 hr)] at cE
    clear hr hiff
    go_upto_region 5 with (go_at_call 112; refine cE.mono ?_; rintro e W5 ⟨rfl, hw5⟩; replace hw5 := hw5.symm; subst hw5)
    have HZ : Hid (Blk (((W4.setCell ⟨q, 0, none⟩ (.int .u64 S)).setCell ⟨q, 1, none⟩ (.slice A m C)).setCell ⟨q + 1, 0, none⟩ (.int .u16 0)) q [.int .u64 (rdSeq bs), .slice A m C] 47 ∧ Blk (((W4.setCell ⟨q, 0, none⟩ (.int .u64 S)).setCell ⟨q, 1, none⟩ (.slice A m C)).setCell ⟨q + 1, 0, none⟩ (.int .u16 0)) (q + 1) [.int .u16 0] 30 ∧
      Below w.heap.size w (((W4.setCell ⟨q, 0, none⟩ (.int .u64 S)).setCell ⟨q, 1, none⟩ (.slice A m C)).setCell ⟨q + 1, 0, none⟩ (.int .u16 0)) ∧ ItsIn (((W4.setCell ⟨q, 0, none⟩ (.int .u64 S)).setCell ⟨q, 1, none⟩ (.slice A m C)).setCell ⟨q + 1, 0, none⟩ (.int .u16 0)) A m (rdIts bs)) := by
     have e1 : Blk (W4.setCell ⟨q, 0, none⟩ (.int .u64 S)) q [.int .u64 S, .slice A m C] 47 := H4.out.1.set 0 _
     have e2 : Blk ((W4.setCell ⟨q, 0, none⟩ (.int .u64 S)).setCell ⟨q, 1, none⟩ (.slice A m C)) q [.int .u64 S, .slice A m C] 47 := e1.set 1 _
     have e3 := (H4.out.2.1.set_other (a := ⟨q, 0, none⟩) (by show q + 1 ≠ q; omega) (.int .u64 S)).set_other (a := ⟨q, 1, none⟩) (by show q + 1 ≠ q; omega) (.slice A m C)
     have hq := H.out.2.2.2
     refine ⟨by rw [← H3.out.2.2.2.2.1]; exact e2.set_other (by show q ≠ q + 1; omega) _, e3.set 0 _, ((H4.out.2.2.2.1.setCell (by show w.heap.size ≤ q; omega) _).setCell (by show w.heap.size ≤ q; omega) _).setCell (by show w.heap.size ≤ q + 1; omega) _, ((H4.out.2.2.1.set (rec_not H4.out.1) 0 _).set (rec_not e1) 1 _).set (err_not e3) 0 _⟩
    clear cE
    go_wp2
    exact dec_told HZ.out.1 HZ.out.2.1 HZ.out.2.2.1 HR.out HZ.out.2.2.2 HFr.out _ rfl rfl
   ·have HR : Hid (¬ IsR bs) := hr
    rw [decide_eq_false (fun h => hr (hiff.2 h))] at cE
    clear hr hiff
    go_wp2_with (go_at_call 112; refine cE.mono ?_; rintro e W5 ⟨rfl, hw5⟩; replace hw5 := hw5.symm; subst hw5)
    exact dec_died H.out.2.2.2 H4.out.1 H4.out.2.1 H4.out.2.2.2.1 HR.out _ rfl rfl
end Go.Proofs.YtcdnjeiamihhbabGreat
namespace Go.Proofs.YtcdnjeiamihhbabGreat
open Go.RowKit Go.Sort
theorem ends_regrown {w : World} (a : Option Addr) (n c : Nat) (zs : List Int) (h : BIn w a n zs) (d : Nat) (os : Array Obj) : Calls Tryz.prog 40 #[.slice a n c] (grow (redrawn w d) os) fun e w'' => e = .returned (.int .i64 (endsN zs : Nat)) ∧ ∃ p : Regrown, w'' = grow (redrawn w p.d) p.os :=
 Calls.regrown_of ((ends_of a n c zs _ (h.below (below_regrown w d os))).mono fun e w' h => ⟨h.1, by rw [h.2]; exact Below.refl _ _⟩)
set_option maxHeartbeats 2000000 in
theorem check_of (x : It) (a : Option Addr) (n c : Nat) (zs : List Int) (w : World) (hf : x.Fits) (h : BIn w a n zs) :
  Calls Tryz.prog 14 #[.agg #[.int .u32 x.t, .int .u64 x.b, .int .u8 x.k, .int .u32 x.s, .int .u16 x.e], .slice a n c] w fun e w' => e = .returned (.bool (checkB x zs)) ∧ Below w.heap.size w w' := by
 obtain ⟨q, hq⟩ : ∃ q, q = w.heap.size := ⟨_, rfl⟩
 have kb : Blk (w.alloc (.cells #[.int .u32 x.t, .int .u64 x.b, .int .u8 x.k, .int .u32 x.s, .int .u16 x.e] 50)) q (itL x) 50 := Blk.new' hq.symm rfl
 have bw : Below w.heap.size w (w.alloc (.cells #[.int .u32 x.t, .int .u64 x.b, .int .u8 x.k, .int .u32 x.s, .int .u16 x.e] 50)) := (Below.refl _ _).alloc (Nat.le_refl _) _
 obtain ⟨B, hB⟩ : ∃ B, B = checkB x zs := ⟨_, rfl⟩
 have HB : Hid (B = checkB x zs) := hB
 rw [← hB]
 clear hB
 have ue : IntKind.i64.wrap x.e = x.e := by have := hf.2.2.2.2; unfold Fits16 at this; rw [IntKind.wrap_i64]; omega
 clear hf
 go_enter Tryz.func14, Tryz.ntmps14
 go_upto_region 1 with fail
 rw [← hq]
 generalize hW : World.alloc w _ = W at kb bw ⊢
 have H : Hid (Blk W q (itL x) 50 ∧ Below w.heap.size w W ∧ BIn W a n zs) := ⟨kb, bw, h.below bw⟩
 have c2 : W.cell? ⟨q, 2, none⟩ = some (.int .u8 x.k) := kb.cell 2
 have c3 : W.cell? ⟨q, 3, none⟩ = some (.int .u32 x.s) := kb.cell 3
 have c4 : W.cell? ⟨q, 4, none⟩ = some (.int .u16 x.e) := kb.cell 4
 obtain ⟨E, hE⟩ : ∃ E, E = endsN zs := ⟨_, rfl⟩
 obtain ⟨K, hK⟩ : ∃ K, K = crI 0 zs := ⟨_, rfl⟩
 by_cases hk : x.k = 1
 ·have hkb : (x.k == 1) = true := by simp [hk]
  by_cases he : x.e = (E : Int)
  ·have heb : (x.e == (E : Int)) = true := by simp [he]
   have hf : B = (x.s == K) := by
    rw [HB.out]
    unfold checkB
    rw [← hE, ← hK]
    by_cases hs : x.s = K <;> simp [hk, he, hs]
   have HBB : Hid (B = (x.s == K)) := hf
   have cE := fun V hV => ends_of a n c zs V hV
   have cK := fun g V hg hV => crcSum_of g a n c 1 zs V hg hV
   simp only [← hE] at cE
   simp only [← hK] at cK
   have g2 : ∀ o, (W.alloc o).cell? ⟨q, 2, none⟩ = some (.int .u8 x.k) := fun o => (kb.alloc o).cell 2
   have g3 : ∀ o, (W.alloc o).cell? ⟨q, 3, none⟩ = some (.int .u32 x.s) := fun o => (kb.alloc o).cell 3
   have g4 : ∀ o, (W.alloc o).cell? ⟨q, 4, none⟩ = some (.int .u16 x.e) := fun o => (kb.alloc o).cell 4
   rw [hk] at c2 g2
   clear hf HB hE hK hk he kb bw hW h hq
   go_region_held3 (fun V => V.cell? ⟨q, 2, none⟩ = some (.int .u8 1) ∧ V.cell? ⟨q, 3, none⟩ = some (.int .u32 x.s) ∧ V.cell? ⟨q, 4, none⟩ = some (.int .u16 x.e)) (first | exact ⟨c2, c3, c4⟩ | exact ⟨g2 _, g3 _, g4 _⟩)
    (first
    | (go_simp; go_at_call 40; refine (cE _ (by first | exact H.out.2.2 | exact H.out.2.2.alloc _)).mono ?_; rintro e w2 ⟨rfl, hw2⟩; replace hw2 := hw2.symm; subst hw2)
    | (go_simp; go_at_call 41; refine (cK _ _ (by show (W.alloc _).cell? _ = _; rw [World.cell?_alloc_mark]; rfl) (by exact H.out.2.2.alloc _)).mono ?_; rintro e w2 ⟨rfl, hw2⟩; replace hw2 := hw2.symm; subst hw2))
   all_goals (
    go_wp2
    go_ret
    exact ⟨by rw [HBB.out]; rfl, (H.out.2.1.alloc H.out.2.1.size _).drew⟩)
  ·have heb : (x.e == (E : Int)) = false := by simp [he]
   have hf : B = false := by rw [HB.out]; unfold checkB; rw [← hE]; simp [he]
   have cE := fun d os => ends_regrown (c := c) a n zs H.out.2.2 d os
   simp only [← hE] at cE
   have k2 := fun d os => cell_regrown c2 d os
   have k3 := fun d os => cell_regrown c3 d os
   have k4 := fun d os => cell_regrown c4 d os
   clear HB hE hK hk he kb bw hW h hq
   subst hf
   refine wp_region_quiet_below (by kernel_rfl) (by kernel_rfl) ?_
   iterate 8 (quiet_step (fail))
   quiet_step (exact cE _ _)
   iterate 11 (quiet_step (fail))
   refine wpQuiet_nil ?_
   intro _ hw'
   obtain ⟨⟨dq, osq⟩, hw''⟩ := hw'
   subst hw''
   go_wp2
   go_ret
   exact ⟨rfl, H.out.2.1.trans ((below_regrown W dq osq).mono H.out.2.1.size)⟩
 ·have hkb : (x.k == 1) = false := by simp [hk]
  have hf : B = false := by rw [HB.out]; unfold checkB; simp [hk]
  clear HB hE hK hk kb bw hW h hq
  subst hf
  go_quiet (fail)
  go_wp2
  go_ret
  exact ⟨rfl, Go.below_drewN H.out.2.1 _⟩
end Go.Proofs.YtcdnjeiamihhbabGreat
namespace Go.Proofs.YtcdnjeiamihhbabGreat
open Go.RowKit

/-! ### All but the blocks of a set lie as they lay -/
end Go.Proofs.YtcdnjeiamihhbabGreat
