/- P16 -/
import Derived.Test.YtcdnjeiamihhbabGreatP15
set_option linter.unusedVariables false
set_option maxRecDepth 4000
namespace Go.Proofs.YtcdnjeiamihhbabGreat
open Go.RowKit Go.Shelf
theorem manyN_le {r n z : Nat} (hr : 0 < r) (hz : 1 ≤ z) : manyN r n ≤ z ↔ n ≤ z * r := by
 constructor
 ·intro h
  have h1 := manyN_all (r := r) (n := n) hr
  have h2 := Nat.mul_le_mul_right r h
  omega
 ·intro h
  unfold manyN
  have : (n + r - 1) / r ≤ z := by
   rw [Nat.div_le_iff_le_mul_add_pred hr]
   rw [Nat.mul_comm]; omega
  omega
theorem kcatchE_idle (p q : Addr) (w : World) :
  CallsD Tryz.prog 100 #[.pointer (some p), .pointer (some q)] .returning w fun e u' w' => e = .returned (.tuple #[]) ∧ u' = .returning ∧ w' = w := by
 refine callsD_of_wpS Tryz.func100 rfl fun c₀ cs hu => ?_
 apply wpS_seq
 apply wpS_region
 simp [wpOpsS, go_sem, recoverD, hu, Tryz.ntmps100, Exit.thenS]
 refine wpS_cond (t := false) (by simp [Act.eval, Array.replicate]) ?_
 simp only [Bool.false_eq_true, if_false]
 refine wpS_of_wp (wp_skip ?_)
 cases c₀
 simp_all [bodyPostS, results, Tryz.results100]
theorem kcatchE_panicking (p q : Nat) (u : TypeId) (pv : Value) (older : List PanicEntry) (w : World) (v0 v1 : Value)
  (hp : w.cell? ⟨p, 0, none⟩ = some v0) (hq : w.cell? ⟨q, 0, none⟩ = some v1) (zp : w.frozen? ⟨p, 0, none⟩ = false) (zq : w.frozen? ⟨q, 0, none⟩ = false) (hne : q ≠ p) :
  CallsD Tryz.prog 100 #[.pointer (some ⟨p, 0, none⟩), .pointer (some ⟨q, 0, none⟩)] (.panicking ({ v := .iface u pv, recovered := false } :: older)) w fun e u' w' =>
   e = .returned (.tuple #[]) ∧ u' = .panicking ({ v := .iface u pv, recovered := true } :: older) ∧ w' = (w.setCell ⟨p, 0, none⟩ (.slice none 0 0)).setCell ⟨q, 0, none⟩ (.int .u16 141) := by
 refine callsD_of_wpS Tryz.func100 rfl fun c₀ cs hu => ?_
 apply wpS_seq
 apply wpS_region
 simp [wpOpsS, go_sem, recoverD, hu, Tryz.ntmps100, Exit.thenS]
 refine wpS_cond (t := true) (by simp [Act.eval, Array.replicate]) ?_
 simp only [if_true]
 apply wpS_region
 simp [wpOpsS, go_sem, hp, hq, zp, zq, bodyPostS, results, Tryz.results100]
/-- A row of later blocks stays where an elder cell is written. -/
theorem out_row' {B : Nat} {V : World} {g : Nat} {L : List Value} {t : TypeId} (hg : Blk V g L t) (i : Nat) (u : Value) {v : Value} {bs : List (List Int)} (hr : RowAt (fun j => B ≤ j) V v bs) (hB : g < B) : RowAt (fun j => B ≤ j) (V.setCell ⟨g, i, none⟩ u) v bs := by
 obtain ⟨vs, r1, r2, r3, r4⟩ := id hr
 refine hr.out (out_cell V g i u) (fun r e e' => by have := r2 r e; omega) (fun c cur hc _ e => by omega)
def EncGot (w : World) (s : Sh) (seq : Int) (ps : List Pl) (e : Ending) (w' : World) : Prop :=
 ∃ v, e = .returned (.tuple #[v, .int .u16 (ckE s ps)]) ∧ RowAt (fun j => w.heap.size ≤ j) w' v (ckO s seq ps) ∧ Below w.heap.size w w'
theorem enc_none {w V : World} {s : Sh} {seq : Int} {ps : List Pl} {E : Int} (h : ckE s ps = E) (h0 : E ≠ 0) (hb : Below w.heap.size w V) : EncGot w s seq ps (.returned (.tuple #[.slice none 0 0, .int .u16 E])) V := by
 refine ⟨_, by rw [h], ?_, hb⟩
 unfold ckO
 rw [if_neg (by rw [h]; exact h0)]
 exact RowAt.nil _ _
def defE (q : Nat) : List Deferred := [{ target := .fn (.func 100) #[.pointer (some ⟨q + 2, 0, none⟩), .pointer (some ⟨q + 3, 0, none⟩)], args := #[] }]
theorem kenc_results (q : Nat) (tmps : Array Value) (w : World) (v1 v2 : Value) (h4 : tmps.getD 4 undef = .pointer (some ⟨q + 2, 0, none⟩)) (h5 : tmps.getD 5 undef = .pointer (some ⟨q + 3, 0, none⟩)) (c1 : w.cell? ⟨q + 2, 0, none⟩ = some v1) (c2 : w.cell? ⟨q + 3, 0, none⟩ = some v2) :
  (results Tryz.f61 tmps).run Tryz.prog w = .ok (.tuple #[v1, v2]) w := by
 have k4 : tmps[4]?.getD undef = .pointer (some ⟨q + 2, 0, none⟩) := by simpa using h4
 have k5 : tmps[5]?.getD undef = .pointer (some ⟨q + 3, 0, none⟩) := by simpa using h5
 simp [results, Tryz.results61, go_sem, k4, k5, c1, c2]
theorem kenc_died {q : Nat} {w V : World} {s : Sh} {seq : Int} {ps : List Pl} (hq : q = w.heap.size) (hb : Blk V (q + 2) [.slice none 0 0] 100) (he : Blk V (q + 3) [.int .u16 0] 30) (bel : Below w.heap.size w V) (hno : ¬ GoodK s ps) (tmps : Array Value) (h4 : tmps.getD 4 undef = .pointer (some ⟨q + 2, 0, none⟩)) (h5 : tmps.getD 5 undef = .pointer (some ⟨q + 3, 0, none⟩)) :
  Leaves Tryz.prog Tryz.f61 tmps (EncGot w s seq ps) (defE q) (.panicking [{ v := .iface 9 (.string noBk), recovered := false }]) V := by
 refine leaves_cons (f := 100) (args := #[.pointer (some ⟨q + 2, 0, none⟩), .pointer (some ⟨q + 3, 0, none⟩)]) (by simp) (by simp [go_sem]) ?_
 refine (kcatchE_panicking (q + 2) (q + 3) 9 _ [] _ _ _ (hb.cell 0) (he.cell 0) (hb.frozen 0) (he.frozen 0) (by omega)).mono ?_
 rintro e u' w'' ⟨rfl, rfl, rfl⟩
 have k1 := (hb.set 0 (.slice none 0 0)).set_other (a := ⟨q + 3, 0, none⟩) (by show q + 2 ≠ q + 3; omega) (.int .u16 141)
 have k2 := (he.set_other (a := ⟨q + 2, 0, none⟩) (by show q + 3 ≠ q + 2; omega) (.slice none 0 0)).set 0 (.int .u16 141)
 exact ⟨_, kenc_results q tmps _ _ _ h4 h5 (k1.cell 0) (k2.cell 0), enc_none (by unfold ckE; rw [if_neg hno]) (by decide) ((bel.setCell (by show w.heap.size ≤ q + 2; omega) _).setCell (by show w.heap.size ≤ q + 3; omega) _)⟩
theorem kenc_told {q : Nat} {w V : World} {s : Sh} {seq : Int} {ps : List Pl} {v : Value} {E : Int} (hb : Blk V (q + 2) [v] 100) (he : Blk V (q + 3) [.int .u16 E] 30) (hg : EncGot w s seq ps (.returned (.tuple #[v, .int .u16 E])) V) (tmps : Array Value) (h4 : tmps.getD 4 undef = .pointer (some ⟨q + 2, 0, none⟩)) (h5 : tmps.getD 5 undef = .pointer (some ⟨q + 3, 0, none⟩)) :
  Leaves Tryz.prog Tryz.f61 tmps (EncGot w s seq ps) (defE q) .returning V := by
 refine leaves_cons (f := 100) (args := #[.pointer (some ⟨q + 2, 0, none⟩), .pointer (some ⟨q + 3, 0, none⟩)]) (by simp) (by simp [go_sem]) ?_
 refine (kcatchE_idle _ _ _).mono ?_
 rintro e u' w'' ⟨rfl, rfl, rfl⟩
 exact ⟨_, kenc_results q tmps _ _ _ h4 h5 (hb.cell 0) (he.cell 0), hg⟩
set_option maxHeartbeats 2000000 in
theorem kencode_of (s : Sh) (seq : Int) (A : Option Addr) (n C : Nat) (ps : List Pl) (w : World) (hz : -9223372036854775808 ≤ s.z) (hs : FitsU seq) (hk : KIn w A n ps) (hnC : n ≤ C) :
  Calls Tryz.prog 61 #[.agg (shL s).toArray, .agg #[.int .u64 seq, .slice A n C]] w (EncGot w s seq ps) := by
 have hmf : ∀ (fn : Fn) (first cap : Array Value) (w : World), (Instr.makeFunc fn first cap).run Tryz.prog w = .ok (.func fn first cap) w := fun _ _ _ _ => rfl
 obtain ⟨q, hq⟩ : ∃ q, q = w.heap.size := ⟨_, rfl⟩
 have HW : Hid (Blk ((((w.alloc (.cells #[.int .i64 s.z, .int .i64 s.zb, .int .i64 s.b, .int .i64 s.r] 23)).alloc (.cells #[.int .u64 seq, .slice A n C] 78)).alloc (.cells #[.slice none 0 0] 100)).alloc (.cells #[.int .u16 0] 30)) q (shL s) 23 ∧ Blk ((((w.alloc (.cells #[.int .i64 s.z, .int .i64 s.zb, .int .i64 s.b, .int .i64 s.r] 23)).alloc (.cells #[.int .u64 seq, .slice A n C] 78)).alloc (.cells #[.slice none 0 0] 100)).alloc (.cells #[.int .u16 0] 30)) (q + 1) [.int .u64 seq, .slice A n C] 78 ∧ Blk ((((w.alloc (.cells #[.int .i64 s.z, .int .i64 s.zb, .int .i64 s.b, .int .i64 s.r] 23)).alloc (.cells #[.int .u64 seq, .slice A n C] 78)).alloc (.cells #[.slice none 0 0] 100)).alloc (.cells #[.int .u16 0] 30)) (q + 2) [.slice none 0 0] 100 ∧ Blk ((((w.alloc (.cells #[.int .i64 s.z, .int .i64 s.zb, .int .i64 s.b, .int .i64 s.r] 23)).alloc (.cells #[.int .u64 seq, .slice A n C] 78)).alloc (.cells #[.slice none 0 0] 100)).alloc (.cells #[.int .u16 0] 30)) (q + 3) [.int .u16 0] 30 ∧ Below w.heap.size w ((((w.alloc (.cells #[.int .i64 s.z, .int .i64 s.zb, .int .i64 s.b, .int .i64 s.r] 23)).alloc (.cells #[.int .u64 seq, .slice A n C] 78)).alloc (.cells #[.slice none 0 0] 100)).alloc (.cells #[.int .u16 0] 30))) :=
  ⟨(((Blk.new' hq.symm rfl).alloc _).alloc _).alloc _, ((Blk.new' (by simp [hq]) rfl).alloc _).alloc _, (Blk.new' (by simp [hq]) rfl).alloc _, Blk.new' (by simp [hq]) rfl, ((((Below.refl _ _).alloc (Nat.le_refl _) _).alloc (by simp) _).alloc (by simp; omega) _).alloc (by simp; omega) _⟩
 have H : Hid (FitsU seq ∧ KIn w A n ps ∧ n ≤ C ∧ q = w.heap.size ∧ -9223372036854775808 ≤ s.z) := ⟨hs, hk, hnC, hq, hz⟩
 clear hs hk hnC hz
 simp only [shL]
 go_enter_defers Tryz.func61, Tryz.ntmps61
 go_upto_region 2 with fail
 rw [← hq]
 have e2 : q + 1 + 1 = q + 2 := rfl
 have e3 : q + 2 + 1 = q + 3 := rfl
 rw [e2, e3]
 clear hq e2 e3
 generalize hW : World.alloc (World.alloc (World.alloc (World.alloc w _) _) _) _ = W at HW ⊢
 clear hW
 have c0 : W.cell? ⟨q, 0, none⟩ = some (.int .i64 s.z) := HW.out.1.cell 0
 have c1 : W.cell? ⟨q, 1, none⟩ = some (.int .i64 s.zb) := HW.out.1.cell 1
 have c2 : W.cell? ⟨q, 2, none⟩ = some (.int .i64 s.b) := HW.out.1.cell 2
 have c3 : W.cell? ⟨q, 3, none⟩ = some (.int .i64 s.r) := HW.out.1.cell 3
 have c4 : W.cell? ⟨q + 1, 1, none⟩ = some (.slice A n C) := HW.out.2.1.cell 1
 go_wp2_with fail
 refine (kcheck_of s A n C ps W H.out.2.2.2.2 (H.out.2.1.below HW.out.2.2.2.2)).mono ?_
 rintro e W2 ⟨b2, (⟨hno, he⟩ | ⟨hg, rfl⟩)⟩
 ·unfold diedE at he
  subst he
  exact kenc_died H.out.2.2.2.1 (HW.out.2.2.1.below b2 HW.out.2.2.1.lt) (HW.out.2.2.2.1.below b2 HW.out.2.2.2.1.lt) (HW.out.2.2.2.2.trans (b2.mono HW.out.2.2.2.2.size)) hno _ rfl rfl
 ·have HV : Hid (Blk W2 q (shL s) 23 ∧ Blk W2 (q + 1) [.int .u64 seq, .slice A n C] 78 ∧ Blk W2 (q + 2) [.slice none 0 0] 100 ∧ Blk W2 (q + 3) [.int .u16 0] 30 ∧ Below w.heap.size w W2 ∧ GoodK s ps) := ⟨HW.out.1.below b2 HW.out.1.lt, HW.out.2.1.below b2 HW.out.2.1.lt, HW.out.2.2.1.below b2 HW.out.2.2.1.lt, HW.out.2.2.2.1.below b2 HW.out.2.2.2.1.lt, HW.out.2.2.2.2.trans (b2.mono HW.out.2.2.2.2.size), hg⟩
  clear c0 c1 c2 c3 c4 b2 hg HW
  have d0 : W2.cell? ⟨q, 0, none⟩ = some (.int .i64 s.z) := HV.out.1.cell 0
  have d1 : W2.cell? ⟨q, 1, none⟩ = some (.int .i64 s.zb) := HV.out.1.cell 1
  have d2 : W2.cell? ⟨q, 2, none⟩ = some (.int .i64 s.b) := HV.out.1.cell 2
  have d4 : W2.cell? ⟨q + 1, 1, none⟩ = some (.slice A n C) := HV.out.2.1.cell 1
  have d5 : W2.cell? ⟨q + 1, 0, none⟩ = some (.int .u64 seq) := HV.out.2.1.cell 0
  have hright := HV.out.2.2.2.2.2.1
  obtain ⟨r, hr⟩ : ∃ r : Nat, roomK s.b = r := ⟨roomN s, by have := roomK_pow hright.2.2.2.2.1; unfold roomN; omega⟩
  have hrN : roomN s = r := by unfold roomN; omega
  have hrb := roomN_pos hright
  rw [hrN] at hrb
  obtain ⟨zb, hzb⟩ : ∃ zb : Nat, s.zb = zb := ⟨s.zb.toNat, by have := hright.2.2.1; omega⟩
  have hzbb : 8 ≤ zb ∧ zb ≤ 4096 := by have h1 := hright.2.2.1; have h2 := hright.2.2.2.1; omega
  have hmul : zb * r ≤ 4096 * 254 := Nat.mul_le_mul hzbb.2 hrb.2.2
  obtain ⟨M, hM⟩ : ∃ M : Nat, M = zb * r := ⟨_, rfl⟩
  have w1 : IntKind.i64.wrap (s.zb * (r : Int)) = (M : Int) := by
   rw [hzb, ← Int.natCast_mul, ← hM, IntKind.wrap_i64]; omega
  have hlen := H.out.2.1.1
  have hn64 : n ≤ 9223372036854775807 := by have := H.out.2.1.2.1; unfold maxLen at this; omega
  have hmm : mK s ps ≤ zb ↔ n ≤ M := by
   unfold mK; rw [hrN, hlen, hM]; exact manyN_le (by omega) (by omega)
  have HM : Hid ((mK s ps ≤ zb ↔ n ≤ M) ∧ s.zb = zb ∧ zb ≤ 4096 ∧ roomK s.b = r) := ⟨hmm, hzb, hzbb.2, hr⟩
  have hRm : ∀ X : World, Calls Tryz.prog 102 #[.int .i64 s.b] X fun e w' => e = .returned (.int .i64 (r : Int)) ∧ w' = X := fun X => by rw [← hr]; exact kroom_of s.b X
  clear hmm hzb hzbb hmul hr hrN hrb hM hlen hright
  by_cases hbig : n ≤ M
  ·have hb1 : decide ((M : Int) < (n : Int)) = false := by simp; omega
   have hb2 : decide (M < n) = false := by simp; omega
   have HBg : Hid (n ≤ M) := hbig
   clear hbig
   go_wp2
   refine wp_region_noPanic ?_
   go_quiet ((go_at_call 102; exact Calls.quiet_of_same (hRm _)))
   refine NoPanic.normal ?_
   have HX : Hid (Blk (W2.drewN nq) q (shL s) 23 ∧ Blk (W2.drewN nq) (q + 1) [.int .u64 seq, .slice A n C] 78 ∧ Blk (W2.drewN nq) (q + 2) [.slice none 0 0] 100 ∧ Blk (W2.drewN nq) (q + 3) [.int .u16 0] 30 ∧ Below w.heap.size w (W2.drewN nq)) := ⟨HV.out.1.drewN _, HV.out.2.1.drewN _, HV.out.2.2.1.drewN _, HV.out.2.2.2.1.drewN _, below_drewN HV.out.2.2.2.2.1 nq⟩
   clear d0 d1 d2 d4 d5 w1 hRm
   generalize World.drewN W2 nq = V at HX ⊢
   have d0 : V.cell? ⟨q, 0, none⟩ = some (.int .i64 s.z) := HX.out.1.cell 0
   have d2 : V.cell? ⟨q, 2, none⟩ = some (.int .i64 s.b) := HX.out.1.cell 2
   have d4 : V.cell? ⟨q + 1, 1, none⟩ = some (.slice A n C) := HX.out.2.1.cell 1
   have d5 : V.cell? ⟨q + 1, 0, none⟩ = some (.int .u64 seq) := HX.out.2.1.cell 0
   go_wp2_with fail
   refine (kwritten_of s seq A n C ps V (H.out.2.1.below HX.out.2.2.2.2) H.out.2.2.1 H.out.1 HV.out.2.2.2.2.2.1 (good_fit2 HV.out.2.2.2.2.2 (fun p hp => (H.out.2.1.2.2.1 p hp).1)) (by have := HM.out.1.2 HBg.out; have := HM.out.2.2.1; omega)).mono ?_
   rintro e W3 ⟨v, rfl, r3, b3⟩
   have k2 := HX.out.2.2.1.below b3 HX.out.2.2.1.lt
   have k3 := HX.out.2.2.2.1.below b3 HX.out.2.2.2.1.lt
   have hqw := H.out.2.2.2.1
   have f2 : W3.cell? ⟨q + 2, 0, none⟩ = some (.slice none 0 0) := k2.cell 0
   have f3 : W3.cell? ⟨q + 3, 0, none⟩ = some (.int .u16 0) := k3.cell 0
   have z2 := k2.frozen 0
   have z3 := k3.frozen 0
   obtain ⟨av, cv, hv⟩ := r3.slice
   obtain ⟨nv, hnv⟩ : ∃ nv, nv = (ckL s seq ps).length := ⟨_, rfl⟩
   rw [← hnv] at hv
   subst hv
   have HZ : Hid (Blk ((W3.setCell ⟨q + 2, 0, none⟩ (.slice av nv cv)).setCell ⟨q + 3, 0, none⟩ (.int .u16 0)) (q + 2) [.slice av nv cv] 100 ∧ Blk ((W3.setCell ⟨q + 2, 0, none⟩ (.slice av nv cv)).setCell ⟨q + 3, 0, none⟩ (.int .u16 0)) (q + 3) [.int .u16 0] 30 ∧ EncGot w s seq ps (.returned (.tuple #[.slice av nv cv, .int .u16 0])) ((W3.setCell ⟨q + 2, 0, none⟩ (.slice av nv cv)).setCell ⟨q + 3, 0, none⟩ (.int .u16 0))) := by
    have hE : ckE s ps = 0 := ckE_zero.2 ⟨HV.out.2.2.2.2.2, by have := HM.out.1.2 HBg.out; rw [HM.out.2.1]; omega⟩
    have hsz : w.heap.size ≤ V.heap.size := HX.out.2.2.2.2.size
    refine ⟨(k2.set 0 _).set_other (by show q + 2 ≠ q + 3; omega) _, (k3.set_other (by show q + 3 ≠ q + 2; omega) _).set 0 _, _, by rw [hE], ?_, ((HX.out.2.2.2.2.trans (b3.mono hsz)).setCell (by show w.heap.size ≤ q + 2; omega) _).setCell (by show w.heap.size ≤ q + 3; omega) _⟩
    unfold ckO
    rw [if_pos hE]
    have r4 := r3.mono (O' := fun j => w.heap.size ≤ j) (fun c hc _ => Nat.le_trans hsz hc)
    have hlt := HX.out.2.2.2.1.lt
    have r5 := out_row' k2 0 (.slice av nv cv) r3 (by omega)
    have r6 := out_row (k3.set_other (a := ⟨q + 2, 0, none⟩) (by show q + 3 ≠ q + 2; omega) (.slice av nv cv)) (by decide) (by decide) 0 (.int .u16 0) r5
    exact r6.mono (fun c hc _ => Nat.le_trans hsz hc)
   clear k2 k3 b3 r3 hqw hnv
   go_wp2
   exact kenc_told HZ.out.1 HZ.out.2.1 HZ.out.2.2 _ rfl rfl
  ·have hb1 : (M : Int) < (n : Int) := by omega
   have HBg : Hid (¬ n ≤ M) := hbig
   clear hbig
   go_wp2
   refine wp_region_noPanic ?_
   go_quiet ((go_at_call 102; exact Calls.quiet_of_same (hRm _)))
   refine NoPanic.normal ?_
   have HX : Hid (Blk (W2.drewN nq) q (shL s) 23 ∧ Blk (W2.drewN nq) (q + 1) [.int .u64 seq, .slice A n C] 78 ∧ Blk (W2.drewN nq) (q + 2) [.slice none 0 0] 100 ∧ Blk (W2.drewN nq) (q + 3) [.int .u16 0] 30 ∧ Below w.heap.size w (W2.drewN nq)) := ⟨HV.out.1.drewN _, HV.out.2.1.drewN _, HV.out.2.2.1.drewN _, HV.out.2.2.2.1.drewN _, below_drewN HV.out.2.2.2.2.1 nq⟩
   clear d0 d1 d2 d4 d5 w1 hRm
   generalize World.drewN W2 nq = V at HX ⊢
   have d0 : V.cell? ⟨q, 0, none⟩ = some (.int .i64 s.z) := HX.out.1.cell 0
   have d2 : V.cell? ⟨q, 2, none⟩ = some (.int .i64 s.b) := HX.out.1.cell 2
   have d4 : V.cell? ⟨q + 1, 1, none⟩ = some (.slice A n C) := HX.out.2.1.cell 1
   have d5 : V.cell? ⟨q + 1, 0, none⟩ = some (.int .u64 seq) := HX.out.2.1.cell 0
   have f2 : V.cell? ⟨q + 2, 0, none⟩ = some (.slice none 0 0) := HX.out.2.2.1.cell 0
   have f3 : V.cell? ⟨q + 3, 0, none⟩ = some (.int .u16 0) := HX.out.2.2.2.1.cell 0
   have z2 := HX.out.2.2.1.frozen 0
   have z3 := HX.out.2.2.2.1.frozen 0
   have HZ : Hid (Blk ((V.setCell ⟨q + 2, 0, none⟩ (.slice none 0 0)).setCell ⟨q + 3, 0, none⟩ (.int .u16 140)) (q + 2) [.slice none 0 0] 100 ∧ Blk ((V.setCell ⟨q + 2, 0, none⟩ (.slice none 0 0)).setCell ⟨q + 3, 0, none⟩ (.int .u16 140)) (q + 3) [.int .u16 140] 30 ∧ EncGot w s seq ps (.returned (.tuple #[.slice none 0 0, .int .u16 140])) ((V.setCell ⟨q + 2, 0, none⟩ (.slice none 0 0)).setCell ⟨q + 3, 0, none⟩ (.int .u16 140))) := by
    have hqw := H.out.2.2.2.1
    have hE : ckE s ps = 140 := by
     unfold ckE
     rw [if_pos HV.out.2.2.2.2.2, if_neg]
     intro h
     rw [HM.out.2.1] at h
     exact HBg.out (HM.out.1.1 (by omega))
    exact ⟨(HX.out.2.2.1.set 0 _).set_other (by show q + 2 ≠ q + 3; omega) _, (HX.out.2.2.2.1.set_other (by show q + 3 ≠ q + 2; omega) _).set 0 _, enc_none hE (by decide) ((HX.out.2.2.2.2.setCell (by show w.heap.size ≤ q + 2; omega) _).setCell (by show w.heap.size ≤ q + 3; omega) _)⟩
   go_wp2
   exact kenc_told HZ.out.1 HZ.out.2.1 HZ.out.2.2 _ rfl rfl
theorem BsIn.at {W : World} {a : Option Addr} {n : Nat} {bs : List (List Int)} (h : BsIn W a n bs) {i : Nat} {D : List Int} (hi : bs[i]? = some D) : ∃ b off A L C, a = some ⟨b, off, none⟩ ∧ W.cell? ⟨b, off + i, none⟩ = some (.slice A L C) ∧ BIn W A L D ∧ (A = none → L = 0 ∧ C = 0) ∧ L ≤ C ∧ L ≤ 100000 := by
 obtain ⟨b, off, ha, hc⟩ := h.2.2.resolve_left (by have := (List.getElem?_eq_some_iff.1 hi).1; have := h.1; omega)
 obtain ⟨v, h1, A, L, C, rfl, h2, h3, h4, h5⟩ := hc i D hi
 exact ⟨b, off, A, L, C, ha, h1, h2, h3, h4, h5⟩
theorem take_eq_next {l l' : List (List Int)} {i : Nat} {D : List Int} (h : l.take i = l'.take i) (h1 : l[i]? = some D) (h2 : l'[i]? = some D) : l.take (i + 1) = l'.take (i + 1) := by
 rw [List.take_add_one, List.take_add_one, h, h1, h2]
set_option maxHeartbeats 2000000 in
theorem keq_of (a : Option Addr) (n c : Nat) (l : List (List Int)) (b : Option Addr) (m d : Nat) (l' : List (List Int)) (w : World) (hx : BsIn w a n l) (hy : BsIn w b m l') :
  Calls Tryz.prog 148 #[.slice a n c, .slice b m d, .func (.func 112) #[] #[]] w fun e w' => e = .returned (.bool (decide (l = l'))) ∧ w' = w := by
 obtain ⟨B, hB⟩ : ∃ B, B = decide (l = l') := ⟨_, rfl⟩
 rw [← hB]
 have H : Hid (BsIn w a n l ∧ BsIn w b m l' ∧ B = decide (l = l')) := ⟨hx, hy, hB⟩
 have hn := hx.2.1
 have hm := hy.2.1
 clear hx hy hB
 by_cases hnm : n = m
 ·subst hnm
  go_enter Tryz.func148, Tryz.ntmps148
  go_wp2
  go_loopw [17] (fun x wr => ∃ i : Nat, x = .int .i64 i ∧ i ≤ n ∧ wr = w ∧ l.take i = l'.take i) (fun x _ => n - (intOf x).toNat)
  case atStart => exact ⟨0, rfl, Nat.zero_le _, rfl, by simp⟩
  case round =>
   obtain ⟨i, rfl, hi, rfl, hti⟩ := hrel
   rcases Nat.lt_or_ge i n with hlt | hge
   ·obtain ⟨D, hD⟩ : ∃ D, l[i]? = some D := ⟨l[i]'(by have := H.out.1.1; omega), by simp⟩
    obtain ⟨D', hD'⟩ : ∃ D', l'[i]? = some D' := ⟨l'[i]'(by have := H.out.2.1.1; omega), by simp⟩
    obtain ⟨b1, o1, A1, L1, C1, rfl, k1, k2, _⟩ := H.out.1.at hD
    obtain ⟨b2, o2, A2, L2, C2, rfl, j1, j2, _⟩ := H.out.2.1.at hD'
    have hi' : (i : Int) < n := by omega
    have hwi : IntKind.i64.wrap ((i : Int) + 1) = (i : Int) + 1 := by rw [IntKind.wrap_i64]; omega
    have hE := equal_of A1 L1 C1 D A2 L2 C2 D' wr k2 j2
    have HD : Hid (l[i]? = some D ∧ l'[i]? = some D' ∧ l.take i = l'.take i) := ⟨hD, hD', hti⟩
    by_cases hDD : D = D'
    ·rw [decide_eq_true hDD] at hE
     have HE : Hid (Calls Tryz.prog 112 #[.slice A1 L1 C1, .slice A2 L2 C2] wr fun e w' => e = .returned (.bool true) ∧ w' = wr) := hE
     have HT : Hid (l.take (i + 1) = l'.take (i + 1)) := take_eq_next hti hD (by rw [hDD]; exact hD')
     clear hE hDD hD hD' hti k2 j2
     go_wp2_with (go_at_call 112; refine HE.out.mono ?_; rintro e wz ⟨rfl, hw⟩; replace hw := hw.symm; subst hw)
     go_roundw
     case rel => exact ⟨i + 1, by simp, by omega, by first | rfl | trivial, HT.out⟩
     case measure => simp [intOf]; omega
    ·rw [decide_eq_false hDD] at hE
     have HE : Hid (Calls Tryz.prog 112 #[.slice A1 L1 C1, .slice A2 L2 C2] wr fun e w' => e = .returned (.bool false) ∧ w' = wr) := hE
     have HF : Hid (B = false) := by
      show B = false
      rw [H.out.2.2]
      refine decide_eq_false (fun e => hDD ?_)
      rw [e, hD'] at hD
      exact (Option.some.inj hD).symm
     clear hE hDD hD hD' hti k2 j2
     go_wp2_with (go_at_call 112; refine HE.out.mono ?_; rintro e wz ⟨rfl, hw⟩; replace hw := hw.symm; subst hw)
     go_ret
     exact ⟨by rw [HF.out]; rfl, rfl⟩
   ·obtain rfl : i = n := by omega
    have HT : Hid (B = true) := by
     show B = true
     rw [H.out.2.2]
     refine decide_eq_true ?_
     rw [List.take_of_length_le (by rw [H.out.1.1]; exact Nat.le_refl _), List.take_of_length_le (by rw [H.out.2.1.1]; exact Nat.le_refl _)] at hti
     exact hti
    clear hti
    go_wp2
    go_ret
    exact ⟨by rw [HT.out]; rfl, rfl⟩
 ·have h1 : ¬ (n : Int) = m := by omega
  have HF : Hid (B = false) := by
   show B = false
   rw [H.out.2.2]
   refine decide_eq_false (fun e => hnm ?_)
   rw [← H.out.1.1, ← H.out.2.1.1, e]
  go_enter Tryz.func148, Tryz.ntmps148
  go_wp2
  go_ret
  exact ⟨by rw [HF.out]; rfl, rfl⟩
end Go.Proofs.YtcdnjeiamihhbabGreat
