/- Texts of this seat, one behind the other: ClT, ClK. -/
import Derived.Test.YtncnkpnfmbgifaaGreatS4
import Derived.Test.YtncnkpnfmbgifaaGreatS3
/- What one call of clean's Step and Run does. -/
namespace Go.Proofs.YtncnkpnfmbgifaaGreat
open Go.RowKit
set_option linter.unusedVariables false
set_option maxRecDepth 4000
section
variable {D D0 : Nat → Prop} {W V w : World} {k : Bs} {st : St} {c : Nat}
theorem sflush_sv (h : Sv D0 V k st c w) : Calls Tryz.prog 45 #[.pointer (some ⟨k.ps, 0, none⟩)] w fun e w' => (∃ v, e = .returned v) ∧ Sv D0 V k (flushM st) c w' := by
 obtain ⟨D, hv, hD, ho⟩ := h
 exact (sflush_of hv).mono (fun e w' hh => ⟨hh.1, Sv.next hD ho hh.2⟩)
theorem smark_sv (h : Sv D0 V k st c w) (hc : c < 100000) (hS : st.S.length ≤ 100000) (ho : st.o = 0 ∨ st.o = 1) : Calls Tryz.prog 46 #[.pointer (some ⟨k.ps, 0, none⟩)] w fun e w' => e = .returned (.int .u16 (markM st).1) ∧ Sv D0 V k (markM st).2 c w' := by
 obtain ⟨D, hv, hD, ho'⟩ := h
 exact (smark_of hv hc hS ho).mono (fun e w' hh => ⟨hh.1, Sv.next hD ho' hh.2⟩)
theorem sclear_sv (z : Int) (h : Sv D0 V k st c w) (hc : c < 100000) : Calls Tryz.prog 47 #[.pointer (some ⟨k.ps, 0, none⟩), .int .i64 z] w fun e w' => e = .returned (.bool (decide (clearOk st z))) ∧ Sv D0 V k (clearM st z) c w' := by
 obtain ⟨D, hv, hD, ho'⟩ := h
 exact (sclear_of z hv hc).mono (fun e w' hh => ⟨hh.1, Sv.next hD ho' hh.2⟩)
set_option maxHeartbeats 2000000 in
theorem cstep_of (h : StV D W k st c) (hi : Inv2 st) (hz : Sml st.s) (hc : c + 16 < 10000) :
  Calls Tryz.prog 14 #[.pointer (some ⟨k.ps, 0, none⟩)] W fun e w' => e = .returned (.bool (stepM st).1) ∧ Sv D W k (stepM st).2 (c + 16) w' ∧ Inv2 (stepM st).2 := by
 obtain ⟨Z, hZ⟩ : ∃ Z, Z = pickM st := ⟨_, rfl⟩
 have HP : Hid (Calls Tryz.prog 12 #[.pointer (some ⟨k.ps, 0, none⟩)] W fun e w' => e = .returned (.int .i64 Z) ∧ Below W.heap.size W w') := by
  rw [hZ]; exact cpick_of h hi hz (by omega)
 have hmono : ∀ w', Sv D W k st c w' → Sv D W k st (c + 16) w' := fun w' hs => hs.mono (by omega)
 by_cases hneg : Z < 0
 ·have HE : Hid (stepM st = (false, st)) := by show _ = _; unfold stepM; rw [if_pos (by rw [← hZ]; exact hneg)]
  have HS : Hid (∀ w', Below W.heap.size W w' → Sv D W k st (c + 16) w' ∧ Inv2 st) := fun w' hb => ⟨hmono _ ((Sv.start h).under hb), hi⟩
  clear h hZ hmono hi
  go_enter Tryz.func14, Tryz.ntmps14
  go_wp2_with (go_at_call 12; refine HP.out.mono ?_; rintro e w1 ⟨rfl, b1⟩)
  go_ret
  rw [HE.out]
  exact ⟨rfl, HS.out _ b1⟩
 ·have hl : ∀ L, IsIn st.S Z L → L.length ≤ 16 := fun L hL => by
   have := car_len hi (by rw [← hZ]; exact hL)
   have := hz.2
   omega
  have HC : Hid (∀ w1, Below W.heap.size W w1 → Calls Tryz.prog 44 #[.pointer (some ⟨k.ps, 0, none⟩), .int .i64 Z] w1 fun e w2 => e = .returned (.bool (decide ((stepP st).1 = 0))) ∧ Sv D W k (stepP st).2 (c + 16) w2 ∧ Inv2 (stepM st).2 ∧ Inv2 (stepP st).2) := fun w1 hb => by
   refine (carry_of (h.under hb) hi Z hl (by omega)).mono ?_
   rintro e w2 ⟨rfl, h2, h3⟩
   rw [hZ] at h2 h3 ⊢
   exact ⟨rfl, h2.from hb, step_inv2 hi h3, putM_inv2 hi h3⟩
  have hps : (stepP st).2.s = st.s := putM_sh _ _
  have hE : stepM st = if (stepP st).1 ≠ 0 then (false, (stepP st).2) else if (stepK st).1 ≠ 0 then (false, (stepK st).2) else (decide (clearOk (stepK st).2 Z), clearM (stepK st).2 Z) := by
   unfold stepM
   rw [if_neg (by rw [← hZ]; exact hneg), ← hZ]
  clear h hmono
  by_cases hp : (stepP st).1 = 0
  ·rw [if_neg (by rw [hp]; simp)] at hE
   rw [hp] at HC
   have HMk : Hid (∀ w3, Inv2 (stepP st).2 → Sv D W k (flushM (stepP st).2) (c + 16) w3 → Calls Tryz.prog 46 #[.pointer (some ⟨k.ps, 0, none⟩)] w3 fun e w4 => e = .returned (.int .u16 (stepK st).1) ∧ Sv D W k (stepK st).2 (c + 16) w4) := fun w3 h2 h3 => by
    have := size_S (flush_inv2 h2).inv (by show Sml (stepP st).2.s; rw [hps]; exact hz)
    exact smark_sv h3 (by omega) (by omega) (flush_inv2 h2).o
   obtain ⟨E, hE0⟩ : ∃ E, E = (stepK st).1 := ⟨_, rfl⟩
   rw [← hE0] at HMk hE
   clear hZ hl hps hi hz
   by_cases hk : E = 0
   ·subst hk
    rw [if_neg (by simp)] at hE
    have HE : Hid (stepM st = (decide (clearOk (stepK st).2 Z), clearM (stepK st).2 Z)) := hE
    clear hE hE0 hp
    go_enter Tryz.func14, Tryz.ntmps14
    go_wp2_with (first
     | (go_at_call 12; refine HP.out.mono ?_; rintro e w1 ⟨rfl, b1⟩)
     | (go_at_call 44; refine (HC.out _ b1).mono ?_; rintro e w2 ⟨rfl, s2, i2, j2⟩)
     | (go_at_call 45; refine (sflush_sv s2).mono ?_; rintro e w3 ⟨⟨v3, rfl⟩, s3⟩)
     | (go_at_call 46; refine (HMk.out _ j2 s3).mono ?_; rintro e w4 ⟨rfl, s4⟩)
     | (go_at_call 47; refine (sclear_sv Z s4 (by omega)).mono ?_; rintro e w5 ⟨rfl, s5⟩))
    go_ret
    rw [HE.out] at i2 ⊢
    exact ⟨rfl, s5, i2⟩
   ·rw [if_pos hk] at hE
    have HE : Hid (stepM st = (false, (stepK st).2)) := hE
    clear hE hE0 hp
    go_enter Tryz.func14, Tryz.ntmps14
    go_wp2_with (first
     | (go_at_call 12; refine HP.out.mono ?_; rintro e w1 ⟨rfl, b1⟩)
     | (go_at_call 44; refine (HC.out _ b1).mono ?_; rintro e w2 ⟨rfl, s2, i2, j2⟩)
     | (go_at_call 45; refine (sflush_sv s2).mono ?_; rintro e w3 ⟨⟨v3, rfl⟩, s3⟩)
     | (go_at_call 46; refine (HMk.out _ j2 s3).mono ?_; rintro e w4 ⟨rfl, s4⟩))
    go_ret
    rw [HE.out] at i2 ⊢
    exact ⟨rfl, s4, i2⟩
  ·rw [if_pos hp] at hE
   rw [decide_eq_false hp] at HC
   have HE : Hid (stepM st = (false, (stepP st).2)) := hE
   clear hE hp hZ hl hps hi hz
   go_enter Tryz.func14, Tryz.ntmps14
   go_wp2_with (first
    | (go_at_call 12; refine HP.out.mono ?_; rintro e w1 ⟨rfl, b1⟩)
    | (go_at_call 44; refine (HC.out _ b1).mono ?_; rintro e w2 ⟨rfl, s2, i2, j2⟩))
   go_ret
   rw [HE.out] at i2 ⊢
   exact ⟨rfl, s2, i2⟩
theorem runM_stop {st : St} {n f : Nat} (h : GoN st n) (hf : f = 0 ∨ lowB (stepN n st).L st.s.r = false) : runM (n + f) st = (n, stepN n st) := by
 rw [runM_go n f st h]
 rcases hf with rfl | hl
 ·unfold runM; simp
 ·cases f with
  | zero => unfold runM; simp
  | succ f =>
   unfold runM
   rw [stepN_sh, hl]
   simp
theorem runM_fail {st : St} {n f : Nat} (h : GoN st n) (hl : lowB (stepN n st).L st.s.r = true) (hs : (stepM (stepN n st)).1 = false) : runM (n + (f + 1)) st = (n, stepN (n + 1) st) := by
 rw [runM_go n (f + 1) st h]
 unfold runM
 rw [stepN_sh, hl, hs]
 simp [stepN]
theorem Tryz.shape_n (z zb b r : Value) : ∀ w : World, (Instr.field 23 (.agg #[z, zb, b, r]) 0).run Tryz.prog w = .ok z w := fun _ => by kernel_rfl
set_option maxHeartbeats 2000000 in
theorem crun_of (h : StV D W k st c) (hi : Inv2 st) (hz : Sml st.s) (hc : c + 800 < 10000) :
  Calls Tryz.prog 17 #[.pointer (some ⟨k.ps, 0, none⟩)] W fun e w' => e = .returned (.int .i64 (runM (4 * st.s.z.toNat) st).1) ∧ Sv D W k (runM (4 * st.s.z.toNat) st).2 (c + 800) w' ∧ Inv2 (runM (4 * st.s.z.toNat) st).2 := by
 obtain ⟨Z, hZ⟩ : ∃ Z : Nat, st.s.z = Z := ⟨st.s.z.toNat, by have := hi.inv.wf.right.1; omega⟩
 have hZ2 : Z ≤ 12 := by have := hz.1; omega
 rw [hZ, Int.toNat_natCast]
 have HSh : Hid (Calls Tryz.prog 54 #[.pointer (some ⟨k.pd, 0, none⟩)] W fun e w' => e = .returned (.agg #[.int .i64 (Z : Nat), .int .i64 st.s.zb, .int .i64 st.s.b, .int .i64 st.s.r]) ∧ Below W.heap.size W w') := by rw [← hZ]; exact dshape_of h.dv
 have HD := sdev_of h
 have H : Hid (StV D W k st c ∧ Inv2 st ∧ Sml st.s) := ⟨h, hi, hz⟩
 have hfn := Tryz.shape_n (.int .i64 (Z : Nat)) (.int .i64 st.s.zb) (.int .i64 st.s.b) (.int .i64 st.s.r)
 have hw4 : IntKind.i64.wrap (4 * (Z : Int)) = 4 * (Z : Int) := by rw [IntKind.wrap_i64]; omega
 clear h hi hz hZ
 go_enter Tryz.func17, Tryz.ntmps17
 go_wp2_with (first
  | (go_at_call 25; refine HD.mono ?_; rintro e W ⟨rfl, rfl⟩)
  | (go_at_call 54; refine HSh.out.mono ?_; rintro e V ⟨rfl, b1⟩))
 have H0 : Hid (Sv D W k st c V) := (Sv.start H.out.1).under b1
 clear b1 HD HSh
 go_loopw [4] (fun x wr => ∃ i : Nat, x = .int .i64 i ∧ i ≤ 4 * Z ∧ Sv D W k (stepN i st) (c + 16 * i) wr ∧ Inv2 (stepN i st) ∧ GoN st i) (fun x _ => 4 * Z - (intOf x).toNat)
 case atStart => exact ⟨0, rfl, Nat.zero_le _, H0.out, H.out.2.1, fun i hi => by omega⟩
 case round =>
  obtain ⟨i, rfl, hi, sv, inv, go⟩ := hrel
  have HE : Hid (GoN st i ∧ Inv2 (stepN i st)) := ⟨go, inv⟩
  rcases Nat.lt_or_ge i (4 * Z) with hlt | hge
  ·have hi' : (i : Int) < 4 * (Z : Int) := by omega
   have hwi : IntKind.i64.wrap ((i : Int) + 1) = (i : Int) + 1 := by rw [IntKind.wrap_i64]; omega
   have hss : (stepN i st).s = st.s := stepN_sh i st
   obtain ⟨b, hb⟩ : ∃ b, b = lowB (stepN i st).L st.s.r := ⟨_, rfl⟩
   have HLo : Hid (Calls Tryz.prog 55 #[.pointer (some ⟨k.ps, 0, none⟩)] wr fun e w' => e = .returned (.bool b) ∧ Sv D W k (stepN i st) (c + 16 * i) w') := by
    obtain ⟨D', hv, hD', ho'⟩ := sv
    have := slow_of hv
    rw [hss, ← hb] at this
    exact this.mono (fun e w' hh => ⟨hh.1, Sv.under ⟨D', hv, hD', ho'⟩ hh.2⟩)
   obtain ⟨g, hg⟩ : ∃ g, g = (stepM (stepN i st)).1 := ⟨_, rfl⟩
   have HSt : Hid (∀ V, Sv D W k (stepN i st) (c + 16 * i) V → Calls Tryz.prog 14 #[.pointer (some ⟨k.ps, 0, none⟩)] V fun e w' => e = .returned (.bool g) ∧ Sv D W k (stepN (i + 1) st) (c + 16 * (i + 1)) w' ∧ Inv2 (stepN (i + 1) st)) := fun V hs => by
    obtain ⟨D', hv, hD', ho'⟩ := hs
    refine (cstep_of hv HE.out.2 (by rw [hss]; exact H.out.2.2) (by omega)).mono ?_
    rintro e w' ⟨rfl, h2, h3⟩
    rw [← hg]
    exact ⟨rfl, (Sv.next hD' ho' h2).mono (by omega), h3⟩
   have HR : Hid ((b = false → runM (4 * Z) st = (i, stepN i st)) ∧ (b = true → g = false → runM (4 * Z) st = (i, stepN (i + 1) st)) ∧ (b = true → g = true → GoN st (i + 1)) ∧ i ≤ 48) := by
    refine ⟨fun e => ?_, fun e e2 => ?_, fun e e2 => fun n hn => ?_, by omega⟩
    ·have := runM_stop (f := 4 * Z - i) HE.out.1 (.inr (by rw [← hb]; exact e))
     rw [show i + (4 * Z - i) = 4 * Z by omega] at this
     exact this
    ·have := runM_fail (f := 4 * Z - i - 1) HE.out.1 (by rw [← hb]; exact e) (by rw [← hg]; exact e2)
     rw [show i + (4 * Z - i - 1 + 1) = 4 * Z by omega] at this
     exact this
    ·by_cases en : n = i
     ·subst en
      exact ⟨by rw [← hb]; exact e, by rw [← hg]; exact e2⟩
     ·exact HE.out.1 n (by omega)
   clear sv inv go hss hb hg
   cases b with
   | false =>
    go_wp2_with (go_at_call 55; refine HLo.out.mono ?_; rintro e w5 ⟨rfl, s5⟩)
    go_ret
    rw [HR.out.1 trivial]
    exact ⟨rfl, s5.mono (by have := HR.out.2.2.2; omega), HE.out.2⟩
   | true =>
    cases g with
    | false =>
     go_wp2_with (first
      | (go_at_call 55; refine HLo.out.mono ?_; rintro e w5 ⟨rfl, s5⟩)
      | (go_at_call 14; refine (HSt.out _ s5).mono ?_; rintro e w6 ⟨rfl, s6, i6⟩))
     go_ret
     rw [HR.out.2.1 trivial trivial]
     exact ⟨rfl, s6.mono (by have := HR.out.2.2.2; omega), i6⟩
    | true =>
     go_wp2_with (first
      | (go_at_call 55; refine HLo.out.mono ?_; rintro e w5 ⟨rfl, s5⟩)
      | (go_at_call 14; refine (HSt.out _ s5).mono ?_; rintro e w6 ⟨rfl, s6, i6⟩))
     exact ⟨⟨i + 1, by simp, by omega, s6, i6, HR.out.2.2.1 trivial trivial⟩, by simp [intOf]; omega⟩
  ·obtain rfl : i = 4 * Z := by omega
   have HR : Hid (runM (4 * Z) st = (4 * Z, stepN (4 * Z) st)) := by
    have := runM_stop (f := 0) go (.inl rfl)
    exact this
   have HS : Hid (Sv D W k (stepN (4 * Z) st) (c + 16 * (4 * Z)) wr) := sv
   clear sv inv go
   go_wp2
   go_ret
   rw [HR.out]
   exact ⟨by simp, HS.out.mono (by omega), HE.out.2⟩
end
end Go.Proofs.YtncnkpnfmbgifaaGreat

/- A step of cleaning keeps what is told. -/
namespace Go.Proofs.YtncnkpnfmbgifaaGreat
open Go.RowKit
set_option linter.unusedVariables false
set_option maxRecDepth 4000
theorem sort_ex : ∀ l : List Pl, l.Pairwise (fun p q => p.2 ≠ q.2) → ∃ L : List Pl, L.Pairwise (fun p q => ltP p.2 q.2 = true) ∧ ∀ p, p ∈ L ↔ p ∈ l
 | [], _ => ⟨[], .nil, by simp⟩
 | a :: r, h => by
  obtain ⟨h1, h2⟩ := List.pairwise_cons.1 h
  obtain ⟨L, k1, k2⟩ := sort_ex r h2
  refine ⟨L.filter (fun p => ltP p.2 a.2) ++ a :: L.filter (fun p => ltP a.2 p.2), ?_, fun p => ?_⟩
  ·rw [List.pairwise_append]
   refine ⟨k1.filter _, List.pairwise_cons.2 ⟨fun y hy => (List.mem_filter.1 hy).2, k1.filter _⟩, fun x hx y hy => ?_⟩
   have hx2 := (List.mem_filter.1 hx).2
   rcases List.mem_cons.1 hy with rfl | hy
   ·exact hx2
   ·exact ltP_trans hx2 (List.mem_filter.1 hy).2
  ·simp only [List.mem_append, List.mem_cons, List.mem_filter]
   constructor
   ·rintro (⟨h, _⟩ | rfl | ⟨h, _⟩)
    ·exact .inr ((k2 p).1 h)
    ·exact .inl rfl
    ·exact .inr ((k2 p).1 h)
   ·rintro (rfl | hp)
    ·exact .inr (.inl rfl)
    ·have hne := h1 p hp
     cases hc : ltP p.2 a.2 with
     | true => exact .inl ⟨(k2 p).2 hp, rfl⟩
     | false => exact .inr (.inr ⟨(k2 p).2 hp, ltP_total hne.symm hc⟩)
theorem isIn_ex {S : List Pl} (g : Good S) (z : Int) : IsIn S z (inM S z) := by
 obtain ⟨L, h1, h2⟩ := sort_ex (S.filter (fun p => p.2.1 == z)) (g.apart.filter _)
 have h : IsIn S z L := ⟨h1, fun p => by rw [h2, List.mem_filter]; simp⟩
 rw [← in_one h]
 exact h
theorem mem_in {st : St} (h : Plc st.zs st.S) {x : Pl} (hx : x ∈ st.S) : ∃ E, memT st x.1 = some E ∧ blkZ st.zs x.2 = some E := by
 obtain ⟨E, hE⟩ := Option.isSome_iff_exists.1 (h.2 x hx)
 refine ⟨E, ?_, hE⟩
 unfold memT memS
 rw [(getS_some h.1).2 (show (x.1, x.2) ∈ st.S from hx)]
 exact hE
theorem upds_same {M : Pr → Option (List Int)} : ∀ l : List Pt, (∀ p ∈ l, p.x = false ∧ M p.n = some p.d) → l.foldl updP M = M
 | [], _ => rfl
 | p :: l, h => by
  obtain ⟨h1, h2⟩ := h p (by simp)
  have e : updP M p = M := by
   funext n
   unfold updP
   split
   ·rename_i e
    rw [if_neg (by rw [h1]; decide), e, h2]
   ·rfl
  rw [List.foldl_cons, e]
  exact upds_same l (fun q hq => h q (List.mem_cons_of_mem _ hq))
theorem car_same {st : St} (h : Plc st.zs st.S) (z : Int) : ∀ p ∈ carL st z, p.x = false ∧ memT st p.n = some p.d := by
 intro p hp
 unfold carL at hp
 obtain ⟨x, hx, rfl⟩ := List.mem_map.1 hp
 have hm := ((isIn_ex h.1 z).2 x).1 hx
 obtain ⟨E, hE, _⟩ := mem_in h hm.1
 refine ⟨rfl, ?_⟩
 show memT st x.1 = some ((memT st x.1).getD [])
 rw [hE]
 rfl
theorem mem_eq {st st' : St} (hS : st'.S = st.S) (g : Good st.S) (h : ∀ x ∈ st.S, blkZ st'.zs x.2 = blkZ st.zs x.2) : memT st' = memT st := by
 funext n
 unfold memT memS
 rw [hS]
 cases hg : getS st.S n with
 | none => rfl
 | some a => exact h (n, a) ((getS_some g).1 hg)
theorem flush_mem {st : St} (h : Inv2 st) : memT (flushM st) = memT st := mem_eq rfl h.inv.plc.1 (fun x hx => blk_flush _ _)
theorem mark_mem {st : St} (h : Inv2 st) : memT (markM st).2 = memT st := by
 refine mem_eq rfl h.inv.plc.1 (fun x hx => ?_)
 show blkZ (svZ st.s st.zs (1 - st.o) st.q st.S) x.2 = _
 unfold svZ
 split
 ·unfold putZ
  rw [blk_flush, blk_set (by have := h.hi x hx; have := h.o; omega)]
 ·rfl
theorem clear_mem {st : St} (h : Inv2 st) (z : Int) : memT (clearM st z) = memT st := by
 unfold clearM
 split
 ·rename_i hc
  obtain ⟨i, hz, hi⟩ := st3_in hc.1
  refine mem_eq rfl h.inv.plc.1 (fun x hx => ?_)
  show blkZ (resetZ st.zs z) x.2 = _
  rw [hz, resetZ_in, blk_set (by have := hc.2 x hx; rw [hz] at this; exact this)]
 ·rfl
theorem putC_mem {st : St} (h : Inv2 st) (z : Int) (hf : ∀ p ∈ carL st z, p.Fits) : memT (putM st (carL st z)).2 = memT st := by
 unfold putM
 split
 ·rename_i hk
  obtain ⟨m, r, _, _, _, _, e, _⟩ := putFmem _ st (carL st z) h.inv hk hf (Nat.le_refl _)
  rw [e]
  exact upds_same _ (fun p hp => car_same h.inv.plc z p (List.mem_of_mem_take hp))
 ·rfl
theorem step_mem {st : St} (h : Inv2 st) (hf : ∀ p ∈ carL st (pickM st), p.Fits) : memT (stepM st).2 = memT st := by
 have i1 : Inv2 (stepP st).2 := putM_inv2 h hf
 have e1 : memT (stepP st).2 = memT st := putC_mem h _ hf
 have i2 : Inv2 (stepK st).2 := mark_inv2 (flush_inv2 i1)
 have e2 : memT (stepK st).2 = memT st := by
  unfold stepK
  rw [mark_mem (flush_inv2 i1), flush_mem i1, e1]
 unfold stepM
 split
 ·rfl
 ·split
  ·exact e1
  ·split
   ·exact e2
   ·show memT (clearM _ _) = _
    rw [clear_mem i2, e2]
theorem names_same {st st' : St} (h : Plc st.zs st.S) (h' : Plc st'.zs st'.S) (e : memT st' = memT st) : st'.S.map (·.1) = st.S.map (·.1) := by
 have hm : ∀ {s : St}, Plc s.zs s.S → ∀ n, n ∈ s.S.map (·.1) ↔ (memT s n).isSome := fun {s} hp n => by
  constructor
  ·intro hn
   obtain ⟨x, hx, rfl⟩ := List.mem_map.1 hn
   obtain ⟨E, hE, _⟩ := mem_in hp hx
   rw [hE]; rfl
  ·intro hn
   cases hg : getS s.S n with
   | none => unfold memT memS at hn; rw [hg] at hn; cases hn
   | some a => exact List.mem_map.2 ⟨(n, a), (getS_some hp.1).1 hg, rfl⟩
 refine eq_of_mem (f := fun n : Pr => n) ?_ ?_ (fun n => by rw [hm h', hm h, e])
 ·rw [List.pairwise_map]; exact h'.1.up
 ·rw [List.pairwise_map]; exact h.1.up
theorem step_seq {st : St} (h : Inv2 st) (hf : ∀ p ∈ carL st (pickM st), p.Fits) : ∃ r : Nat, r ≤ (carL st (pickM st)).length ∧ ((stepM st).2.q = (st.q + r) % 18446744073709551616 ∨ r = 0 ∧ (stepM st).2.q = st.q) := by
 have e1 : ∃ r : Nat, r ≤ (carL st (pickM st)).length ∧ ((stepP st).2.q = (st.q + r) % 18446744073709551616 ∨ r = 0 ∧ (stepP st).2.q = st.q) := by
  unfold stepP putM
  split
  ·rename_i hk
   obtain ⟨m, r, h1, h2, _, _, _, _, h3⟩ := putFmem _ st (carL st (pickM st)) h.inv hk hf (Nat.le_refl _)
   exact ⟨r, by omega, h3⟩
  ·exact ⟨0, Nat.zero_le _, .inr ⟨rfl, rfl⟩⟩
 have e2 : (stepK st).2.q = (stepP st).2.q := rfl
 have e3 : (clearM (stepK st).2 (pickM st)).q = (stepP st).2.q := by
  unfold clearM
  split
  ·exact e2
  ·exact e2
 unfold stepM
 split
 ·exact ⟨0, Nat.zero_le _, .inr ⟨rfl, rfl⟩⟩
 ·split
  ·exact e1
  ·split
   ·rw [e2]; exact e1
   ·show ∃ r : Nat, r ≤ _ ∧ ((clearM _ _).q = _ ∨ r = 0 ∧ (clearM _ _).q = _)
    rw [e3]; exact e1
end Go.Proofs.YtncnkpnfmbgifaaGreat
