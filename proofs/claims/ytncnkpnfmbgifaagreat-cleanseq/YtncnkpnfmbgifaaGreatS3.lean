/- Texts of this seat, one behind the other: FDoc, ClA, ClM, ClS. -/
import Derived.Test.YtncnkpnfmbgifaaGreatS2
import Derived.BigQuiet
import Derived.Test.YtncnkpnfmbgifaaGreatQ21
/- The document's own Order, Ratio, Worth, Best and Mean. -/
namespace Go.Proofs.YtncnkpnfmbgifaaGreat
open Go.RowKit Ieee
set_option linter.unusedVariables false
set_option maxRecDepth 4000

theorem refRatio_of (a b : Nat) (w : World) : Calls Tryz.prog 84 #[.int .u64 a, .int .u64 b] w fun e w' => ∃ x, e = .returned (.float .f64 x) ∧ Cls (ratC a b) x ∧ Drawn w w' := by
 have fq := fun (x y : Nat) (W : World) => run_float (P := Tryz.prog) .quo (by simp) 89 x y W
 have ca := ofInt_cv a
 have cb := ofInt_cv b
 go_enter Tryz.func84, Tryz.ntmps84
 go_wp2
 go_ret
 exact ⟨_, rfl, fres_cls _ _ _ _, fwld_drawn _ _ _ _⟩

set_option maxHeartbeats 1000000 in
theorem refWorth_of (a b c : Nat) (w : World) : Calls Tryz.prog 41 #[.int .u64 a, .int .u64 b, .int .u64 c] w fun e w' => ∃ x, e = .returned (.float .f64 x) ∧ Cls (worC a b c) x ∧ Drawn w w' := by
 have fq := fun (x y : Nat) (W : World) => run_float (P := Tryz.prog) .quo (by simp) 89 x y W
 have fs := fun (x y : Nat) (W : World) => run_float (P := Tryz.prog) .sub (by simp) 89 x y W
 have fm := fun (x y : Nat) (W : World) => run_float (P := Tryz.prog) .mul (by simp) 89 x y W
 have fa := fun (x y : Nat) (W : World) => run_float (P := Tryz.prog) .add (by simp) 89 x y W
 have cc := ofInt_cv c
 go_enter Tryz.func41, Tryz.ntmps41
 go_wp2_with fail
 refine (refRatio_of a b w).mono ?_
 rintro e w1 ⟨u, rfl, hu, dr⟩
 have HU : Hid (Cls (ratC a b) u ∧ Drawn w w1) := ⟨hu, dr⟩
 clear hu dr
 go_wp2
 go_ret
 refine ⟨_, rfl, fres_bop .quo (fres_bop .mul (fres_bop .sub cls_one HU.out.1 _) (cls_cv c) _) (fres_bop .add cls_one HU.out.1 _) _, ?_⟩
 exact (((HU.out.2.trans (fwld_drawn _ _ _ _)).trans (fwld_drawn _ _ _ _)).trans (fwld_drawn _ _ _ _)).trans (fwld_drawn _ _ _ _)

set_option maxHeartbeats 1000000 in
theorem refBest_of (a : Option Addr) (n c : Nat) (zs : List Nat) (w : World) (hin : FIn w a n zs) (hn : n ≤ 1000000) :
  Calls Tryz.prog 43 #[.slice a n c] w fun e w' => ∃ B, e = .returned (.int .i64 B) ∧ BestTo zs n B ∧ Drawn w w' := by
 have H : Hid (FIn w a n zs) := hin
 clear hin
 go_enter Tryz.func43, Tryz.ntmps43
 go_wp2
 go_loopw [3, 4] (fun b i wr => ∃ (j : Nat) (B : Int), j ≤ n ∧ i = .int .i64 j ∧ b = .int .i64 B ∧ BestTo zs j B ∧ Drawn w wr)
  (fun _ i _ => n - (intOf i).toNat)
 case atStart => exact ⟨0, -1, by omega, rfl, rfl, .inl ⟨rfl, fun i hi => by omega⟩, Drawn.refl w⟩
 case round =>
  obtain ⟨j, B, hj, rfl, rfl, st, dr⟩ := hrel
  have HS : Hid (BestTo zs j B ∧ j ≤ n ∧ Drawn w wr) := ⟨st, hj, dr⟩
  clear st hj dr
  by_cases hlt : j < n
  ·have hlt' : (j : Int) < n := by omega
   obtain ⟨b, off, rfl, hc⟩ := (H.out.drawn HS.out.2.2).2.2.2.resolve_left (by omega)
   have cz := hc j hlt
   have HC : Hid (∀ i, i < n → wr.cell? ⟨b, off + i, none⟩ = some (.float .f64 (zs.getD i 0))) := hc
   clear hc
   obtain ⟨z, hz⟩ : ∃ z, z = zs.getD j 0 := ⟨_, rfl⟩
   rw [← hz] at cz
   have HZ : Hid (z = zs.getD j 0 ∧ j < n) := ⟨hz, hlt⟩
   clear hz hlt
   go_wp2_with fail
   refine (none_of z wr).mono ?_
   rintro e wr ⟨rfl, rfl⟩
   by_cases hnan : Nan z
   ·have d : decide (Nan z) = true := decide_eq_true hnan
    have HN : Hid (Nan z) := hnan
    clear hnan
    go_wp2
    go_roundw
    case rel => exact ⟨j + 1, B, by have := HZ.out.2; omega, by go_num, rfl, HS.out.1.stay (.inl (by rw [← HZ.out.1]; exact HN.out)), HS.out.2.2⟩
    case measure => have := HZ.out.2; simp [intOf]; omega
   have d : decide (Nan z) = false := decide_eq_false hnan
   have HN : Hid (¬ Nan z) := hnan
   clear hnan
   rcases HS.out.1 with ⟨rfl, hall⟩ | ⟨k, rfl, hk, hkn, _, _⟩
   ·clear hall
    go_wp2
    go_quiet (fail)
    go_wp2
    go_roundw
    case rel => exact ⟨j + 1, j, by have := HZ.out.2; omega, by go_num, rfl, HS.out.1.up (by rw [← HZ.out.1]; exact HN.out) (fun k e => by omega), HS.out.2.2.trans ⟨_, rfl⟩⟩
    case measure => have := HZ.out.2; simp [intOf]; omega
   ·have ck := HC.out k (by have := HZ.out.2; omega)
    have hkn' : (k : Int) < n := by have := HZ.out.2; omega
    obtain ⟨y, hy⟩ : ∃ y, y = zs.getD k 0 := ⟨_, rfl⟩
    rw [← hy] at ck hkn
    have HY : Hid (y = zs.getD k 0) := hy
    clear hy
    have ov := order_vals z y HN.out hkn
    have k0 : decide ((k : Int) < 0) = false := decide_eq_false (by omega)
    clear hkn hk
    by_cases hp : key y < key z
    ·rw [if_neg (by omega), if_pos hp] at ov
     have HP : Hid (key y < key z) := hp
     clear hp
     go_wp2
     go_quiet (fail)
     go_wp2
     go_roundw
     case rel => exact ⟨j + 1, j, by have := HZ.out.2; omega, by go_num, rfl, HS.out.1.up (by rw [← HZ.out.1]; exact HN.out) (fun k' e => by rw [← HZ.out.1, show k' = k by omega, ← HY.out]; exact HP.out), HS.out.2.2.trans ⟨_, rfl⟩⟩
     case measure => have := HZ.out.2; simp [intOf]; omega
    ·have ov2 : ((FloatKind.f64.format.order z y) == some Ordering.gt) = false := by
      rw [ov]
      by_cases c : key z < key y
      ·rw [if_pos c]; rfl
      ·rw [if_neg c, if_neg hp]; rfl
     have HP : Hid (key z ≤ key y) := Int.not_lt.1 hp
     clear hp ov
     go_wp2
     go_quiet (fail)
     go_wp2
     go_roundw
     case rel => exact ⟨j + 1, k, by have := HZ.out.2; omega, by go_num, rfl, HS.out.1.stay (.inr ⟨k, rfl, by rw [← HZ.out.1, ← HY.out]; exact HP.out⟩), HS.out.2.2.trans ⟨_, rfl⟩⟩
     case measure => have := HZ.out.2; simp [intOf]; omega
  ·have hge : (n : Int) ≤ j := by omega
   have HE : Hid (j = n) := by have := HS.out.2.1; show j = n; omega
   clear hlt
   go_wp2
   go_ret
   exact ⟨B, rfl, by rw [← HE.out]; exact HS.out.1, HS.out.2.2⟩

end Go.Proofs.YtncnkpnfmbgifaaGreat

/- What it is worth to clean a zone; the best of some. -/
namespace Go.Proofs.YtncnkpnfmbgifaaGreat
open Go.RowKit Ieee
set_option linter.unusedVariables false
set_option maxRecDepth 4000

theorem wR_fin (a b c : Nat) (hc : c < 18446744073709551616) (h : a ≤ b) : wR a b c < IR := by
 have u1 := uR_one h
 have d1 := (dR_two u1).1
 have g1 := gR_le c (pR_one (uR a b))
 have cf := cv_fin c hc
 have vd : val one ≤ val (dR (uR a b)) := (val_mono_iff _ _).2 d1
 rw [val_one] at vd
 have : RQ (val (gR (pR (uR a b)) c) * 2 ^ EE) (val (dR (uR a b))) ≤ gR (pR (uR a b)) c := RQ_le (Nat.lt_of_lt_of_le pE vd) (Nat.mul_le_mul_left _ vd)
 have h2 : wR a b c ≤ gR (pR (uR a b)) c := Nat.le_trans (Nat.min_le_left _ _) this
 exact Nat.lt_of_le_of_lt (Nat.le_trans h2 g1) cf
theorem key_lt {r s : Nat} (hs : s ≤ IR) (h : r < s) : key r < key s := by
 rw [key_pos r (by omega), key_pos s hs]
 have : ¬ val s ≤ val r := fun e => by have := (val_mono_iff _ _).1 e; omega
 omega
def fullC (live zb age : Nat) : Option Nat := if live = 0 then some IR else if zb / 2 < live then none else worC live zb age
theorem best_congr {zs ys : List Nat} {n : Nat} {B : Int} (h : ∀ i, i < n → zs.getD i 0 = ys.getD i 0 ∨ (Nan (zs.getD i 0) ∧ Nan (ys.getD i 0))) (b : BestTo zs n B) : BestTo ys n B := by
 have hn : ∀ i, i < n → ¬ Nan (ys.getD i 0) → ¬ Nan (zs.getD i 0) ∧ zs.getD i 0 = ys.getD i 0 := fun i hi hy => by
  rcases h i hi with e | ⟨_, e⟩
  ·exact ⟨by rw [e]; exact hy, e⟩
  ·exact absurd e hy
 rcases b with ⟨rfl, b⟩ | ⟨k, rfl, hk, kn, h1, h2⟩
 ·refine .inl ⟨rfl, fun i hi => ?_⟩
  rcases h i hi with e | ⟨_, e⟩
  ·rw [← e]; exact b i hi
  ·exact e
 ·rcases h k hk with e | ⟨e, _⟩
  ·refine .inr ⟨k, rfl, hk, by rw [← e]; exact kn, fun i hi hy => ?_, fun i hi hy => ?_⟩
   ·obtain ⟨a1, a2⟩ := hn i hi hy
    rw [← e, ← a2]; exact h1 i hi a1
   ·obtain ⟨a1, a2⟩ := hn i (by omega) hy
    rw [← e, ← a2]; exact h2 i hi a1
  ·exact absurd e kn
def bestN (zs : List Nat) : Nat → Int
 | 0 => -1
 | j + 1 => if ¬ Nan (zs.getD j 0) ∧ (bestN zs j < 0 ∨ key (zs.getD (bestN zs j).toNat 0) < key (zs.getD j 0)) then (j : Int) else bestN zs j
theorem bestN_to (zs : List Nat) : ∀ j, BestTo zs j (bestN zs j)
 | 0 => .inl ⟨rfl, fun i hi => by omega⟩
 | j + 1 => by
  have ih := bestN_to zs j
  unfold bestN
  split
  ·rename_i h
   refine ih.up h.1 (fun k e => ?_)
   rcases h.2 with h2 | h2
   ·omega
   ·rw [e] at h2; simpa using h2
  ·rename_i h
   refine ih.stay ?_
   by_cases hn : Nan (zs.getD j 0)
   ·exact .inl hn
   ·have hB : ¬ bestN zs j < 0 := fun h' => h ⟨hn, .inl h'⟩
    refine .inr ⟨(bestN zs j).toNat, by omega, ?_⟩
    rcases Int.lt_or_le (key (zs.getD (bestN zs j).toNat 0)) (key (zs.getD j 0)) with c | c
    ·exact absurd ⟨hn, .inr c⟩ h
    ·exact c
theorem inf_pos (w : World) : Calls Tryz.prog 138 #[.int .i64 1] w fun e w' => e = .returned (.float .f64 9218868437227405312) ∧ w' = w := by
 have h := fun W => run_frombits 9218868437227405312 W
 go_enter Tryz.func138, Tryz.ntmps138
 go_wp2
 go_ret
 exact ⟨rfl, rfl⟩
theorem cworth_of (live zb age : Nat) (hl : live < 100000) (hz : zb < 100000) (ha : age < 18446744073709551616) (w : World) : Calls Tryz.prog 83 #[.int .i64 live, .int .i64 zb, .int .u64 age] w fun e w' => ∃ x, e = .returned (.float .f64 x) ∧ Cls (fullC live zb age) x ∧ Drawn w w' := by
 by_cases h0 : live = 0
 ·subst h0
  go_enter Tryz.func83, Tryz.ntmps83
  go_wp2_with (go_at_call 138; refine (inf_pos _).mono ?_; rintro e w ⟨rfl, rfl⟩)
  go_ret
  exact ⟨_, rfl, by unfold fullC; rw [if_pos rfl]; exact cls_num _ (nan_pos _ (Nat.le_refl _)) (by decide), Drawn.refl _⟩
 ·have n0 : ¬ (live : Int) = 0 := by omega
  have hq : (zb : Int).tdiv 2 = ((zb / 2 : Nat) : Int) := by rw [Int.tdiv_eq_ediv_of_nonneg (by omega)]; omega
  obtain ⟨H, hH⟩ : ∃ H, H = zb / 2 := ⟨_, rfl⟩
  rw [← hH] at hq
  have hw3 : wrap64 (H : Int) = H := by unfold wrap64; omega
  by_cases hh : zb / 2 < live
  ·have hh' : (H : Int) < live := by omega
   have HF : Hid (fullC live zb age = none) := by show _ = _; unfold fullC; rw [if_neg h0, if_pos hh]
   clear hH hh h0
   go_enter Tryz.func83, Tryz.ntmps83
   go_wp2_with (go_at_call 81; refine (nanv_of _).mono ?_; rintro e w ⟨rfl, rfl⟩)
   go_ret
   exact ⟨_, rfl, by rw [HF.out]; exact ⟨by decide, by show Nan _; decide⟩, Drawn.refl _⟩
  ·have hh' : ¬ (H : Int) < live := by omega
   have HF : Hid (fullC live zb age = worC live zb age) := by show _ = _; unfold fullC; rw [if_neg h0, if_neg hh]
   have w1 : IntKind.u64.wrap (live : Int) = live := by rw [IntKind.wrap_u64]; omega
   have w2 : IntKind.u64.wrap (zb : Int) = zb := by rw [IntKind.wrap_u64]; omega
   have HW := fun V => worth_of live zb age V
   clear hH hh h0
   go_enter Tryz.func83, Tryz.ntmps83
   go_wp2_with (go_at_call 139; refine (HW _).mono ?_; rintro e w2 ⟨x, rfl, hx, hd⟩)
   go_ret
   exact ⟨_, rfl, by rw [HF.out]; exact hx, hd⟩
end Go.Proofs.YtncnkpnfmbgifaaGreat

/- Which zone is cleaned next, as lists. -/
namespace Go.Proofs.YtncnkpnfmbgifaaGreat
open Go.RowKit Ieee
set_option linter.unusedVariables false
set_option maxRecDepth 4000

def liveN (S : List Pl) (z : Int) : Nat := (S.filter (fun p => p.2.1 == z)).length
theorem live_in {S : List Pl} {z : Int} {L : List Pl} (g : Good S) (h : IsIn S z L) : L.length = liveN S z := by
 have hn : L.Nodup := h.1.imp (fun {a b} hh e => by subst e; exact absurd rfl (ltP_ne hh))
 have hs : (S.filter (fun p => p.2.1 == z)).Nodup := (g.apart.imp (fun {a b} hh e => by subst e; exact hh rfl)).filter _
 exact (perm_of_mem hn hs (fun x => by rw [h.2, List.mem_filter]; simp)).length_eq
theorem live_zero {S : List Pl} {z : Int} : liveN S z = 0 ↔ emIn S z := by
 unfold liveN emIn
 rw [List.length_eq_zero_iff, List.filter_eq_nil_iff]
 simp

def ageI (st : St) (z : Int) : Int := (st.q - lastI st.la z + 1) % 18446744073709551616
def wzC (st : St) (i : Nat) : Option Nat := if st.L.getD i 0 = 3 then fullC (liveN st.S i) st.s.zb.toNat (ageI st i).toNat else none
theorem wz_cases {st : St} (hr : RightS st.s) (i : Nat) :
  (st.L.getD i 0 = 3 ∧ liveN st.S i = 0 ∧ wzC st i = some IR) ∨ (st.L.getD i 0 = 3 ∧ 0 < liveN st.S i ∧ (liveN st.S i : Int) ≤ st.s.zb / 2 ∧ ∃ r, wzC st i = some r ∧ r < IR) ∨ ((st.L.getD i 0 = 3 → 0 < liveN st.S i ∧ st.s.zb / 2 < liveN st.S i) ∧ wzC st i = none) := by
 have hz := hr.2.2.1
 have hz2 := hr.2.2.2.1
 unfold wzC
 by_cases h3 : st.L.getD i 0 = 3
 ·rw [if_pos h3]
  unfold fullC
  by_cases h0 : liveN st.S i = 0
  ·rw [if_pos h0]
   exact .inl ⟨h3, h0, rfl⟩
  ·rw [if_neg h0]
   by_cases hh : st.s.zb.toNat / 2 < liveN st.S i
   ·rw [if_pos hh]
    exact .inr (.inr ⟨fun _ => ⟨by omega, by omega⟩, rfl⟩)
   ·rw [if_neg hh]
    have ha : (ageI st i).toNat < 18446744073709551616 := by unfold ageI; omega
    have hb : st.s.zb.toNat < 18446744073709551616 := by omega
    have hl : liveN st.S i ≤ st.s.zb.toNat := by omega
    exact .inr (.inl ⟨h3, by omega, by omega, _, wor_some _ _ _ hb ha (by omega) hl, wR_fin _ _ _ ha hl⟩)
 ·rw [if_neg h3]
  exact .inr (.inr ⟨fun h => absurd h h3, rfl⟩)

def canL (st : St) : List Nat := (List.range st.L.length).map (fun i => (wzC st i).getD 9221120237041090561)
theorem can_at (st : St) {i : Nat} (h : i < st.L.length) : (canL st).getD i 0 = (wzC st i).getD 9221120237041090561 := by
 unfold canL
 simp [List.getD, h]
def pickM (st : St) : Int := bestN (canL st) st.L.length
def WzIs (st : St) (zs : List Nat) : Prop := zs.length = st.L.length ∧ ∀ i, i < st.L.length → Cls (wzC st i) (zs.getD i 0)
theorem nan_can : Nan 9221120237041090561 := by decide
theorem pick_one {st : St} {zs : List Nat} {B : Int} (h : WzIs st zs) (b : BestTo zs st.L.length B) : B = pickM st := by
 refine (best_congr (fun i hi => ?_) b).one (bestN_to _ _)
 have hc := h.2 i hi
 rw [can_at st hi]
 cases e : wzC st i with
 | none => rw [e] at hc; exact .inr ⟨cls_none hc, nan_can⟩
 | some r => rw [e] at hc; exact .inl (cls_some hc)
theorem pick_cases (st : St) (hr : RightS st.s) : (pickM st = -1 ∧ ∀ i, i < st.L.length → st.L.getD i 0 = 3 → 0 < liveN st.S i ∧ st.s.zb / 2 < liveN st.S i) ∨
  ∃ k : Nat, pickM st = k ∧ k < st.L.length ∧ st.L.getD k 0 = 3 ∧ ((liveN st.S k = 0 ∧ ∀ i, i < k → st.L.getD i 0 = 3 → 0 < liveN st.S i) ∨ (0 < liveN st.S k ∧ (liveN st.S k : Int) ≤ st.s.zb / 2 ∧ ∀ i, i < st.L.length → st.L.getD i 0 = 3 → 0 < liveN st.S i)) := by
 have b := bestN_to (canL st) st.L.length
 have inf_not : ¬ Nan IR := nan_pos _ (Nat.le_refl _)
 rcases b with ⟨e, b⟩ | ⟨k, e, hk, kn, h1, h2⟩
 ·refine .inl ⟨e, fun i hi h3 => ?_⟩
  have hb := b i hi
  rw [can_at st hi] at hb
  rcases wz_cases hr i with ⟨_, _, w⟩ | ⟨_, _, _, r, w, hlt⟩ | ⟨w, _⟩
  ·rw [w] at hb; exact absurd hb inf_not
  ·rw [w] at hb; exact absurd hb (nan_pos r (Nat.le_of_lt hlt))
  ·exact w h3
 ·refine .inr ⟨k, e, hk, ?_⟩
  rw [can_at st hk] at kn
  rcases wz_cases hr k with ⟨h3, h0, w⟩ | ⟨h3, h0, hh, r, w, hlt⟩ | ⟨_, w⟩
  ·refine ⟨h3, .inl ⟨h0, fun i hi hi3 => ?_⟩⟩
   rcases Nat.eq_zero_or_pos (liveN st.S i) with z | z
   ·have hw : wzC st i = some IR := by unfold wzC fullC; rw [if_pos hi3, if_pos z]
    have hil : i < st.L.length := by omega
    have g := h2 i hi (by rw [can_at st hil, hw]; exact inf_not)
    rw [can_at st hil, can_at st hk, hw, w] at g
    exact absurd g (Int.lt_irrefl _)
   ·exact z
  ·refine ⟨h3, .inr ⟨h0, hh, fun i hi hi3 => ?_⟩⟩
   rcases Nat.eq_zero_or_pos (liveN st.S i) with z | z
   ·have hw : wzC st i = some IR := by unfold wzC fullC; rw [if_pos hi3, if_pos z]
    have g := h1 i hi (by rw [can_at st hi, hw]; exact inf_not)
    rw [can_at st hi, can_at st hk, hw, w] at g
    have := key_lt (Nat.le_refl IR) hlt
    exact absurd g (by show ¬ key IR ≤ key r; omega)
   ·exact z
  ·rw [w] at kn
   exact absurd nan_can kn

theorem listTo_up (L : List Int) (a : Int) : ∀ k, (listTo L a k).Pairwise (· < ·)
 | 0 => .nil
 | k + 1 => by
  rw [listTo_step]
  split
  ·rw [List.pairwise_append]
   refine ⟨listTo_up L a k, List.pairwise_singleton _ _, fun x hx y hy => ?_⟩
   obtain ⟨i, hi, _, rfl⟩ := listTo_mem.1 hx
   rw [List.mem_singleton.1 hy]
   omega
  ·exact listTo_up L a k
theorem listZ_up (L : List Int) (a : Int) : (listZ L a).Pairwise (· < ·) := listTo_up L a _
theorem before {F : List Int} (h : F.Pairwise (· < ·)) {i : Nat} {x z : Int} (hz : F[i]? = some z) (hx : x ∈ F) (hlt : x < z) : x ∈ F.take i := by
 obtain ⟨j, hj, rfl⟩ := List.getElem_of_mem hx
 obtain ⟨hi, rfl⟩ := List.getElem?_eq_some_iff.1 hz
 rcases Nat.lt_or_ge j i with c | c
 ·exact List.mem_take_iff_getElem.2 ⟨j, by omega, rfl⟩
 ·rcases Nat.eq_or_lt_of_le c with e | e
  ·subst e; omega
  ·have := List.pairwise_iff_getElem.1 h i j hi hj e
   omega
theorem pick_zero {st : St} (hr : RightS st.s) {i : Nat} {z : Int} (hz : (listZ st.L 3)[i]? = some z) (h0 : liveN st.S z = 0) (hb : ∀ x ∈ (listZ st.L 3).take i, 0 < liveN st.S x) : pickM st = z := by
 obtain ⟨m, hm, h3, rfl⟩ := listTo_mem.1 (List.mem_of_getElem? hz)
 have hw : wzC st m = some IR := by unfold wzC fullC; rw [if_pos h3, if_pos h0]
 have inf_not : ¬ Nan IR := nan_pos _ (Nat.le_refl _)
 have b : BestTo (canL st) st.L.length (m : Int) := by
  refine .inr ⟨m, rfl, hm, by rw [can_at st hm, hw]; exact inf_not, fun k hk kn => ?_, fun k hk kn => ?_⟩
  ·rw [can_at st hk] at kn ⊢
   rw [can_at st hm, hw]
   rcases wz_cases hr k with ⟨_, _, w⟩ | ⟨_, _, _, r, w, hlt⟩ | ⟨_, w⟩
   ·rw [w]; exact Int.le_refl _
   ·rw [w]; exact Int.le_of_lt (key_lt (Nat.le_refl IR) hlt)
   ·rw [w] at kn; exact absurd nan_can kn
  ·have hkl : k < st.L.length := by omega
   rw [can_at st hkl] at kn ⊢
   rw [can_at st hm, hw]
   rcases wz_cases hr k with ⟨k3, kz, w⟩ | ⟨_, _, _, r, w, hlt⟩ | ⟨_, w⟩
   ·have := hb k (before (listZ_up _ _) hz (listTo_mem.2 ⟨k, hkl, k3, rfl⟩) (by omega))
    omega
   ·rw [w]; exact key_lt (Nat.le_refl IR) hlt
   ·rw [w] at kn; exact absurd nan_can kn
 exact (bestN_to _ _).one b
def smB (st : St) (z : Int) : Bool := decide ((liveN st.S z : Int) ≤ st.s.zb / 2)
theorem pick_list {st : St} (hr : RightS st.s) (hb : ∀ x ∈ listZ st.L 3, 0 < liveN st.S x) {F : List Int} (hF : F = (listZ st.L 3).filter (smB st)) {ys : List Nat}
  (hy : ∀ j z, F[j]? = some z → Cls (wzC st z.toNat) (ys.getD j 0)) {B : Int} (b : BestTo ys F.length B) : (B = -1 ∧ pickM st = -1) ∨ ∃ k : Nat, B = k ∧ ∃ z, F[k]? = some z ∧ pickM st = z := by
 have up : F.Pairwise (· < ·) := by rw [hF]; exact (listZ_up _ _).filter _
 have inF : ∀ k, k < st.L.length → ¬ Nan ((canL st).getD k 0) → (k : Int) ∈ F := fun k hk kn => by
  rw [can_at st hk] at kn
  rcases wz_cases hr k with ⟨k3, kz, w⟩ | ⟨k3, k0, kh, r, w, hlt⟩ | ⟨_, w⟩
  ·have := hb k (listTo_mem.2 ⟨k, hk, k3, rfl⟩); omega
  ·rw [hF, List.mem_filter]
   exact ⟨listTo_mem.2 ⟨k, hk, k3, rfl⟩, by unfold smB; exact decide_eq_true kh⟩
  ·rw [w] at kn; exact absurd nan_can kn
 have at' : ∀ (j : Nat) (z : Int), F[j]? = some z → ∃ m : Nat, z = m ∧ m < st.L.length ∧ ¬ Nan (ys.getD j 0) ∧ (canL st).getD m 0 = ys.getD j 0 := fun j z hz => by
  have hm := List.mem_of_getElem? hz
  have hc := hy j z hz
  rw [hF, List.mem_filter] at hm
  obtain ⟨m, hml, h3, rfl⟩ := listTo_mem.1 hm.1
  have h0 := hb _ hm.1
  have hs : (liveN st.S (m : Int) : Int) ≤ st.s.zb / 2 := of_decide_eq_true hm.2
  refine ⟨m, rfl, hml, ?_⟩
  rw [can_at st hml]
  simp only [Int.toNat_natCast] at hc
  rcases wz_cases hr m with ⟨_, kz, w⟩ | ⟨_, _, _, r, w, hlt⟩ | ⟨w, _⟩
  ·omega
  ·rw [w] at hc ⊢
   have e := cls_some hc
   exact ⟨by rw [e]; exact nan_pos r (Nat.le_of_lt hlt), e.symm⟩
  ·have := w h3; omega
 have bt : ∀ B', BestTo (canL st) st.L.length B' → pickM st = B' := fun B' h => (bestN_to _ _).one h
 rcases b with ⟨rfl, b⟩ | ⟨k, rfl, hk, kn, h1, h2⟩
 ·refine .inl ⟨rfl, bt _ (.inl ⟨rfl, fun i hi => ?_⟩)⟩
  by_cases hn : Nan ((canL st).getD i 0)
  ·exact hn
  ·obtain ⟨j, hj, e⟩ := List.getElem_of_mem (inF i hi hn)
   obtain ⟨m, _, _, nn, _⟩ := at' j _ (List.getElem?_eq_getElem hj)
   exact absurd (b j hj) nn
 ·refine .inr ⟨k, rfl, F[k], List.getElem?_eq_getElem hk, ?_⟩
  obtain ⟨m, e, hm, _, hc⟩ := at' k _ (List.getElem?_eq_getElem hk)
  rw [e]
  refine bt _ (.inr ⟨m, rfl, hm, by rw [hc]; exact kn, fun i hi hn => ?_, fun i hi hn => ?_⟩)
  ·obtain ⟨j, hj, ej⟩ := List.getElem_of_mem (inF i hi hn)
   obtain ⟨m', e', _, nn, hc'⟩ := at' j _ (List.getElem?_eq_getElem hj)
   have : m' = i := by omega
   subst this
   rw [hc, hc']
   exact h1 j hj nn
  ·obtain ⟨j, hj, ej⟩ := List.getElem_of_mem (inF i (by omega) hn)
   obtain ⟨m', e', _, nn, hc'⟩ := at' j _ (List.getElem?_eq_getElem hj)
   have : m' = i := by omega
   subst this
   rw [hc, hc']
   refine h2 j ?_ nn
   rcases Nat.lt_or_ge j k with c | c
   ·exact c
   ·rcases Nat.eq_or_lt_of_le c with ee | ee
    ·subst ee; omega
    ·have := List.pairwise_iff_getElem.1 up k j hk hj ee
     omega
end Go.Proofs.YtncnkpnfmbgifaaGreat

/- A step of cleaning, as lists; what it keeps. -/
namespace Go.Proofs.YtncnkpnfmbgifaaGreat
open Go.RowKit
set_option linter.unusedVariables false
set_option maxRecDepth 4000

noncomputable def inM (S : List Pl) (z : Int) : List Pl := Classical.epsilon (IsIn S z)
theorem in_one {S : List Pl} {z : Int} {L : List Pl} (h : IsIn S z L) : L = inM S z := h.one (Classical.epsilon_spec ⟨L, h⟩)
def carP (M : Pr → Option (List Int)) (x : Pl) : Pt := ⟨x.1.1, x.1.2, false, (M x.1).getD []⟩
noncomputable def carL (st : St) (z : Int) : List Pt := (inM st.S z).map (carP (memT st))
noncomputable def stepP (st : St) : Int × St := putM st (carL st (pickM st))
noncomputable def stepK (st : St) : Int × St := markM (flushM (stepP st).2)
noncomputable def stepM (st : St) : Bool × St :=
 if pickM st < 0 then (false, st)
 else if (stepP st).1 ≠ 0 then (false, (stepP st).2)
 else if (stepK st).1 ≠ 0 then (false, (stepK st).2)
 else (decide (clearOk (stepK st).2 (pickM st)), clearM (stepK st).2 (pickM st))
noncomputable def runM : Nat → St → Nat × St
 | 0, st => (0, st)
 | f + 1, st => if lowB st.L st.s.r = true then (if (stepM st).1 = true then ((runM f (stepM st).2).1 + 1, (runM f (stepM st).2).2) else (0, (stepM st).2)) else (0, st)
theorem putM_sh (st : St) (l : List Pt) : (putM st l).2.s = st.s := by
 unfold putM
 split
 ·exact put_sh _ _ _
 ·rfl
theorem stepM_sh (st : St) : (stepM st).2.s = st.s := by
 have h1 : (stepP st).2.s = st.s := putM_sh _ _
 have h2 : (stepK st).2.s = st.s := h1
 unfold stepM
 split
 ·rfl
 ·split
  ·exact h1
  ·split
   ·exact h2
   ·show (clearM _ _).s = _
    unfold clearM
    split
    ·exact h2
    ·exact h2
theorem runM_sh : ∀ (f : Nat) (st : St), (runM f st).2.s = st.s
 | 0, st => rfl
 | f + 1, st => by
  unfold runM
  split
  ·split
   ·show (runM f (stepM st).2).2.s = _
    rw [runM_sh f, stepM_sh]
   ·exact stepM_sh st
  ·rfl
noncomputable def stepN : Nat → St → St
 | 0, st => st
 | n + 1, st => (stepM (stepN n st)).2
theorem stepN_sh (n : Nat) (st : St) : (stepN n st).s = st.s := by
 induction n with
 | zero => rfl
 | succ n ih => show (stepM (stepN n st)).2.s = _; rw [stepM_sh, ih]
def GoN (st : St) (n : Nat) : Prop := ∀ i, i < n → lowB (stepN i st).L st.s.r = true ∧ (stepM (stepN i st)).1 = true
theorem stepN_front (st : St) : ∀ n, stepN n (stepM st).2 = stepN (n + 1) st
 | 0 => rfl
 | n + 1 => by show (stepM (stepN n (stepM st).2)).2 = (stepM (stepN (n + 1) st)).2; rw [stepN_front st n]
theorem runM_go : ∀ (n f : Nat) (st : St), GoN st n → runM (n + f) st = ((runM f (stepN n st)).1 + n, (runM f (stepN n st)).2)
 | 0, f, st, _ => by rw [Nat.zero_add]; rfl
 | n + 1, f, st, h => by
  obtain ⟨h1, h2⟩ := h 0 (by omega)
  have h1 : lowB st.L st.s.r = true := h1
  have h2 : (stepM st).1 = true := h2
  have ih := runM_go n f (stepM st).2 (fun i hi => by rw [stepN_front, stepM_sh]; exact h (i + 1) (by omega))
  rw [show n + 1 + f = (n + f) + 1 by omega]
  rw [show runM (n + f + 1) st = if lowB st.L st.s.r = true then (if (stepM st).1 = true then ((runM (n + f) (stepM st).2).1 + 1, (runM (n + f) (stepM st).2).2) else (0, (stepM st).2)) else (0, st) from rfl]
  rw [if_pos h1, if_pos h2, ih, stepN_front]
  simp only [Prod.mk.injEq, and_true]
  omega

theorem mark_inv2 {st : St} (h : Inv2 st) : Inv2 (markM st).2 := do_inv2 h ⟨6, [], 0⟩ (by simp)
theorem flush_inv2 {st : St} (h : Inv2 st) : Inv2 (flushM st) := do_inv2 h ⟨5, [], 0⟩ (by simp)
theorem clear_inv2 {st : St} (h : Inv2 st) (z : Int) : Inv2 (clearM st z) := do_inv2 h ⟨7, [], z⟩ (by simp)
theorem putM_inv2 {st : St} (h : Inv2 st) {l : List Pt} (hf : ∀ p ∈ l, p.Fits) : Inv2 (putM st l).2 := by
 unfold putM
 split
 ·rename_i hk
  exact put_inv2 _ _ _ h hk hf (Nat.le_refl _)
 ·exact h
theorem step_inv2 {st : St} (h : Inv2 st) (hf : ∀ p ∈ carL st (pickM st), p.Fits) : Inv2 (stepM st).2 := by
 have h1 : Inv2 (stepP st).2 := putM_inv2 h hf
 have h2 : Inv2 (stepK st).2 := mark_inv2 (flush_inv2 h1)
 unfold stepM
 split
 ·exact h
 ·split
  ·exact h1
  ·split
   ·exact h2
   ·exact clear_inv2 h2 _
theorem car_len {st : St} (h : Inv2 st) {L : List Pl} (hL : IsIn st.S (pickM st) L) : 2 * L.length ≤ st.s.zb.toNat := by
 rw [live_in h.inv.plc.1 hL]
 have hz := h.inv.wf.right.2.2.1
 rcases pick_cases st h.inv.wf.right with ⟨e, _⟩ | ⟨k, e, hk, h3, ⟨h0, _⟩ | ⟨_, hh, _⟩⟩
 ·rw [e, live_zero.2 (fun p hp => by have := h.hi p hp; omega)]
  omega
 ·rw [e, h0]; omega
 ·rw [e]; omega
end Go.Proofs.YtncnkpnfmbgifaaGreat
