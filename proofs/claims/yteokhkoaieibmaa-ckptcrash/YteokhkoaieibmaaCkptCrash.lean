/- CkptCrash: while one slot is written, and whatever a crash leaves of it, Load tells what the other slot holds, or the new one where all of it is written; for any shape, states, slot, number of blocks and losses. -/
import Derived.Test.YteokhkoaieibmaaRows
import Derived.Test.YteokhkoaieibmaaJ15
import Derived.WalkKit
import Derived.ProofKit
import Derived.OpenShut
import Derived.ShutString
import Derived.ChangeOld
import Derived.Below
namespace Go.Proofs.Yteokhkoaieibmaa.ckptCrash
open Go.ChangeShapes Go.WideShapes Go.ChangeAt Go.RowKit
open Go.ChangeMaps (open_string shut_string)
set_option linter.unusedVariables false

theorem own : ownKnob Try.prog.godebug = none := by kernel_rfl
theorem laidOut : laidOutB Try.prog = true := by kernel_rfl

set_option maxRecDepth 20000 in
set_option maxHeartbeats 16000000 in
theorem walk (s0 : Sh) (s1 : Int) (A1 : Option Addr) (n1 C1 : Nat) (x1 : List Pl) (s2 : Int) (A2 : Option Addr) (n2 C2 : Nat) (x2 : List Pl) (a3 : Bool) (a4 : Int) (a5 : Option Addr) (n5 c5 : Nat) (x5 : List (Int × Int)) (w : World) (w0 : ShF s0) (w1 : FitsU s1 ∧ KIn w A1 n1 x1 ∧ n1 ≤ C1 ∧ (A1 = none → n1 = 0 ∧ C1 = 0)) (w2 : FitsU s2 ∧ KIn w A2 n2 x2 ∧ n2 ≤ C2 ∧ (A2 = none → n2 = 0 ∧ C2 = 0)) (w4 : (Lit.int .i64 a4).wf = true) (w5 : LsIn w a5 n5 x5) :
    Calls Try.prog 6 #[.agg (shL s0).toArray, .agg #[.int .u64 s1, .slice A1 n1 C1], .agg #[.int .u64 s2, .slice A2 n2 C2], .bool a3, .int .i64 a4, .slice a5 n5 c5] w fun e w' => e = .returned (.bool true) ∧ Below w.heap.size w w' := by
  obtain ⟨f1, k1, l1, _⟩ := w1
  obtain ⟨f2, k2, l2, _⟩ := w2
  obtain ⟨q, hq⟩ : ∃ q, q = w.heap.size := ⟨_, rfl⟩
  have H1 : Hid (KIn w A1 n1 x1 ∧ KIn w A2 n2 x2 ∧ n1 ≤ C1 ∧ n2 ≤ C2 ∧ FitsU s1 ∧ FitsU s2 ∧ LsIn w a5 n5 x5 ∧ -9223372036854775808 ≤ s0.z ∧ (Lit.int IntKind.i64 a4).wf = true) := ⟨k1, k2, l1, l2, f1, f2, w5, w0.1.1, w4⟩
  clear k1 k2 l1 l2 f1 f2 w0 w4 w5
  have HB0 : Hid (Blk (((w.alloc (.cells #[.int .i64 s0.z, .int .i64 s0.zb, .int .i64 s0.b, .int .i64 s0.r] 23)).alloc (.cells #[.int .u64 s1, .slice A1 n1 C1] 27)).alloc (.cells #[.int .u64 s2, .slice A2 n2 C2] 27)) q (shL s0) 23 ∧ Blk (((w.alloc (.cells #[.int .i64 s0.z, .int .i64 s0.zb, .int .i64 s0.b, .int .i64 s0.r] 23)).alloc (.cells #[.int .u64 s1, .slice A1 n1 C1] 27)).alloc (.cells #[.int .u64 s2, .slice A2 n2 C2] 27)) (q + 1) [.int .u64 s1, .slice A1 n1 C1] 27 ∧ Blk (((w.alloc (.cells #[.int .i64 s0.z, .int .i64 s0.zb, .int .i64 s0.b, .int .i64 s0.r] 23)).alloc (.cells #[.int .u64 s1, .slice A1 n1 C1] 27)).alloc (.cells #[.int .u64 s2, .slice A2 n2 C2] 27)) (q + 1 + 1) [.int .u64 s2, .slice A2 n2 C2] 27 ∧ Below w.heap.size w (((w.alloc (.cells #[.int .i64 s0.z, .int .i64 s0.zb, .int .i64 s0.b, .int .i64 s0.r] 23)).alloc (.cells #[.int .u64 s1, .slice A1 n1 C1] 27)).alloc (.cells #[.int .u64 s2, .slice A2 n2 C2] 27))) :=
    ⟨((Blk.new' hq.symm rfl).alloc _).alloc _, (Blk.new' (by simp [hq]) rfl).alloc _, Blk.new' (by simp [hq]) rfl, (((Below.refl _ _).alloc (Nat.le_refl _) _).alloc (by simp) _).alloc (by simp; omega) _⟩
  simp only [shL]
  go_enter Try.func6, Try.ntmps6
  go_upto_region 1 with fail
  rw [← hq]
  generalize hW1 : World.alloc (World.alloc (World.alloc w _) _) _ = W1 at HB0 ⊢
  clear hW1 hq
  have HC : Hid (∀ V : World, Below W1.heap.size W1 V → (V.cell? ⟨q, 0, none⟩ = some (.int .i64 s0.z) ∧ V.cell? ⟨q, 1, none⟩ = some (.int .i64 s0.zb) ∧ V.cell? ⟨q, 2, none⟩ = some (.int .i64 s0.b) ∧ V.cell? ⟨q, 3, none⟩ = some (.int .i64 s0.r)) ∧ (V.cell? ⟨q + 1, 0, none⟩ = some (.int .u64 s1) ∧ V.cell? ⟨q + 1, 1, none⟩ = some (.slice A1 n1 C1)) ∧ V.cell? ⟨q + 1 + 1, 0, none⟩ = some (.int .u64 s2) ∧ V.cell? ⟨q + 1 + 1, 1, none⟩ = some (.slice A2 n2 C2)) := by
    intro V hV
    have h := HB0.out.1.below hV HB0.out.1.lt
    have h' := HB0.out.2.1.below hV HB0.out.2.1.lt
    have h'' := HB0.out.2.2.1.below hV HB0.out.2.2.1.lt
    exact ⟨⟨h.cell 0, h.cell 1, h.cell 2, h.cell 3⟩, ⟨h'.cell 0, h'.cell 1⟩, h''.cell 0, h''.cell 1⟩
  have HB : Hid (Below w.heap.size w W1) := HB0.out.2.2.2
  clear HB0
  obtain ⟨⟨e0, e1, e2, e3⟩, -⟩ := HC.out _ (Below.refl _ _)
  obtain ⟨Sm, hSm⟩ : ∃ Sm, Sm = decide (SmallS s0) := ⟨_, rfl⟩
  have HS : Hid (Calls Try.prog 19 #[.agg (shL s0).toArray] W1 fun e w' => e = .returned (.bool Sm) ∧ Below W1.heap.size W1 w') := by rw [hSm]; exact small_of s0 W1
  clear hSm
  go_upto_region 2 with (go_at_call 19; refine HS.out.mono ?_; rintro e W2 ⟨rfl, b2⟩)
  have H2 : Hid (Below W1.heap.size W1 W2 ∧ Below w.heap.size w W2) := ⟨b2, HB.out.trans (b2.mono HB.out.size)⟩
  clear HS b2 e0 e1 e2 e3
  have HK : Hid (∀ X : World, Calls Try.prog 11 #[] X fun e w' => e = .returned (.bool true) ∧ Below X.heap.size X w') := kknown_any
  obtain ⟨-, ⟨o0, o1⟩, p0, p1⟩ := HC.out W2 H2.out.1
  cases Sm
  · clear o0 o1 p0 p1
    go_wp2_with (go_at_call 11; refine (HK.out _).mono ?_; rintro e W3 ⟨rfl, b3⟩)
    go_ret
    exact ⟨rfl, H2.out.2.trans (b3.mono H2.out.2.size)⟩
  by_cases g1 : (200 : Int) < (n1 : Int)
  · clear p0 p1
    go_wp2_with (go_at_call 11; refine (HK.out _).mono ?_; rintro e W3 ⟨rfl, b3⟩)
    go_ret
    exact ⟨rfl, H2.out.2.trans (b3.mono H2.out.2.size)⟩
  by_cases g2 : (200 : Int) < (n2 : Int)
  · go_wp2_with (go_at_call 11; refine (HK.out _).mono ?_; rintro e W3 ⟨rfl, b3⟩)
    go_ret
    exact ⟨rfl, H2.out.2.trans (b3.mono H2.out.2.size)⟩
  by_cases g3 : (20 : Int) < (n5 : Int)
  · go_wp2_with (go_at_call 11; refine (HK.out _).mono ?_; rintro e W3 ⟨rfl, b3⟩)
    go_ret
    exact ⟨rfl, H2.out.2.trans (b3.mono H2.out.2.size)⟩
  by_cases g4 : s2 ≤ s1
  · go_wp2_with (go_at_call 11; refine (HK.out _).mono ?_; rintro e W3 ⟨rfl, b3⟩)
    go_ret
    exact ⟨rfl, H2.out.2.trans (b3.mono H2.out.2.size)⟩
  go_upto_region 4 with (go_at_call 11; refine (HK.out _).mono ?_; rintro e W3 ⟨rfl, b3⟩)
  have H3 : Hid (Below W1.heap.size W1 W3 ∧ Below w.heap.size w W3) := ⟨H2.out.1.trans (b3.mono H2.out.1.size), H2.out.2.trans (b3.mono H2.out.2.size)⟩
  clear b3 o0 o1 p0 p1
  obtain ⟨⟨e0, e1, e2, e3⟩, -⟩ := HC.out W3 H3.out.1
  by_cases hr : RightS s0
  rotate_left
  · have HN : Hid (Calls Try.prog 29 #[.agg (shL s0).toArray] W3 fun e w' => e = .returned (.pointer none) ∧ Below W3.heap.size W3 w') := (new_of s0 W3 H1.out.2.2.2.2.2.2.2.1).mono (by rintro e w' ⟨b, (⟨_, rfl⟩ | ⟨h, _⟩)⟩; exact ⟨rfl, b⟩; exact absurd h hr)
    clear hr
    go_wp2_with (go_at_call 29; refine HN.out.mono ?_; rintro e W4 ⟨rfl, b4⟩)
    go_ret
    exact ⟨rfl, H3.out.2.trans (b4.mono H3.out.2.size)⟩
  have HN : Hid (Calls Try.prog 29 #[.agg (shL s0).toArray] W3 fun e w' => ∃ p, e = .returned (.pointer (some ⟨p, 0, none⟩)) ∧ CrB W3 s0 p (emptyZ s0.z.toNat) w') := (new_of s0 W3 H1.out.2.2.2.2.2.2.2.1).mono (by rintro e w' ⟨b, (⟨h, _⟩ | ⟨h, p, rfl, hd⟩)⟩; exact absurd hr h; exact ⟨p, rfl, cr_start hr b hd⟩)
  obtain ⟨E2, hE2⟩ : ∃ E2, E2 = ckE s0 x2 := ⟨_, rfl⟩
  have HR : Hid (RightS s0 ∧ E2 = ckE s0 x2 ∧ s1 < s2) := ⟨hr, hE2, by omega⟩
  have HEn : Hid (∀ X, Below W3.heap.size W3 X → Calls Try.prog 9 #[.agg (shL s0).toArray, .agg #[.int .u64 s2, .slice A2 n2 C2]] X fun e Z => ∃ av nv cv, e = .returned (.tuple #[.slice av nv cv, .int .u16 E2]) ∧ RowAt (fun j => X.heap.size ≤ j) Z (.slice av nv cv) (ckO s0 s2 x2) ∧ Below X.heap.size X Z) := by
    intro X hX
    have hwX := H3.out.2.trans (hX.mono H3.out.2.size)
    refine (kencode_of s0 s2 A2 n2 C2 x2 X H1.out.2.2.2.2.2.2.2.1 H1.out.2.2.2.2.2.1 (H1.out.2.1.below hwX) H1.out.2.2.2.1).mono ?_
    rintro e Z ⟨v, rfl, row, bZ⟩
    obtain ⟨av, cv, rfl⟩ := row.slice
    exact ⟨av, _, cv, by rw [hE2], row, bZ⟩
  clear hr hE2 g1 g2 g3 g4
  cases a3
  · go_upto_region 10 with (go_at_call 29; refine HN.out.mono ?_; rintro e W4 ⟨p, rfl, st4⟩)
    have bel4 := st4.bel
    obtain ⟨⟨e0, e1, e2, e3⟩, ⟨o0, o1⟩, p0, p1⟩ := HC.out W4 (H3.out.1.trans (bel4.mono H3.out.1.size))
    have HSv : Hid (Calls Try.prog 24 #[.pointer (some ⟨p, 0, none⟩), .int .i64 0, .agg #[.int .u64 s1, .slice A1 n1 C1]] W4 fun e W' => ∃ E, e = .returned (.int .u16 E) ∧ (E = 0 → ckE s0 x1 = 0 ∧ CrB W3 s0 p (putZ (emptyZ s0.z.toNat) 0 (ckL s0 s1 x1)) W') ∧ Below W3.heap.size W3 W') := cr_save (slot := 0) st4 (by decide) H1.out.2.2.2.2.1 (H1.out.1.below H3.out.2) H1.out.2.2.1
    clear st4 bel4
    go_upto_region 11 with (go_at_call 24; refine HSv.out.mono ?_; rintro e W5 ⟨E, rfl, h5⟩)
    have H5 : Hid ((E = 0 → ckE s0 x1 = 0 ∧ CrB W3 s0 p (putZ (emptyZ s0.z.toNat) 0 (ckL s0 s1 x1)) W5) ∧ Below W3.heap.size W3 W5) := h5
    clear h5 HSv e0 e1 e2 e3 o0 o1 p0 p1
    obtain ⟨⟨e0, e1, e2, e3⟩, ⟨o0, o1⟩, p0, p1⟩ := HC.out W5 (H3.out.1.trans (H5.out.2.mono H3.out.1.size))
    go_upto_region 12 with (go_at_call 9; refine (HEn.out _ H5.out.2).mono ?_; rintro e Z ⟨av, nv, cv, rfl, row, bZ⟩)
    have HZ : Hid (RowAt (fun j => W5.heap.size ≤ j) Z (.slice av nv cv) (ckO s0 s2 x2) ∧ Below W5.heap.size W5 Z ∧ Below w.heap.size w Z) := ⟨row, bZ, by have h1 := H3.out.2.trans (H5.out.2.mono H3.out.2.size); exact h1.trans (bZ.mono h1.size)⟩
    clear row bZ HEn HN e0 e1 e2 e3 o0 o1 p0 p1
    by_cases hE : E = 0
    rotate_left
    · go_wp2
      go_ret
      exact ⟨rfl, HZ.out.2.2⟩
    by_cases hE2 : E2 = 0
    rotate_left
    · subst hE
      go_wp2
      go_ret
      exact ⟨rfl, HZ.out.2.2⟩
    subst hE
    subst hE2
    obtain ⟨ls, hls⟩ : ∃ ls, ls = ckL s0 s2 x2 := ⟨_, rfl⟩
    have hck := HR.out.2.1.symm
    have hO : ckO s0 s2 x2 = ls := by unfold ckO; rw [if_pos hck, hls]
    have hsz := ckL_size (seq := s2) hck
    have hsh := ckL_short (seq := s2) hck
    rw [← hls] at hsz hsh
    have hlz : (ls.length : Int) ≤ s0.zb := by rw [hls, ckL_length]; exact (ckE_zero.1 hck).2
    have hnv : nv = ls.length := by obtain ⟨_, _, e⟩ := HZ.out.1.slice; cases e; rw [hO]
    obtain ⟨h51, h52⟩ := H5.out.1 rfl
    obtain ⟨zs, hzs⟩ : ∃ zs, zs = putZ (emptyZ s0.z.toNat) 0 (ckL s0 s1 x1) := ⟨_, rfl⟩
    have hwf : Wf s0 zs := by rw [hzs]; exact wf_putZ (empty_wf HR.out.1) 0 h51
    rw [← hzs] at h52
    have hzl : 1 < zs.length := by have h1 := hwf.len; have h2 := hwf.right.1; omega
    have hnv4 : nv ≤ 4096 := by have h1 := HR.out.1.2.2.2.1; omega
    have row' : RowAt (fun j => W5.heap.size ≤ j) Z (.slice av nv cv) ls := by rw [← hO]; exact HZ.out.1
    have HRs : Hid (Calls Try.prog 30 #[.pointer (some ⟨p, 0, none⟩), .int .i64 1] Z fun e w' => (∃ v, e = .returned v) ∧ CrA W3 s0 p zs ls 1 av nv cv 0 w') := cr_reset 1 h52 HZ.out.2.1 row'
    have HL : Hid (ls = ckL s0 s2 x2 ∧ (∀ D ∈ ls, (D.length : Int) = s0.b) ∧ Short ls ∧ (ls.length : Int) ≤ s0.zb ∧ nv = ls.length ∧ zs = putZ (emptyZ s0.z.toNat) 0 (ckL s0 s1 x1) ∧ Wf s0 zs ∧ 1 < zs.length ∧ ckE s0 x1 = 0 ∧ ckE s0 x2 = 0) := ⟨hls, hsz, hsh, hlz, hnv, hzs, hwf, hzl, h51, hck⟩
    clear hls hsz hsh hlz hnv hzs hwf hzl h51 hck h52 row' hO H5
    go_upto_region 16 with (go_at_call 30; refine HRs.out.mono ?_; rintro e W6 ⟨⟨v6, rfl⟩, st6⟩)
    have H6 : Hid (CrA W3 s0 p zs ls 1 av nv cv 0 W6) := st6
    clear st6 HRs
    generalize hM : (if a4 < 0 then (0 : Int) else a4) = M
    clear hM
    obtain ⟨n, hn⟩ : ∃ n : Nat, (n : Int) = M % (↑nv + 1) := ⟨(M % ((nv : Int) + 1)).toNat, Int.toNat_of_nonneg (Int.emod_nonneg _ (by omega))⟩
    have hnn : n ≤ nv := by have := Int.emod_lt_of_pos M (show (0 : Int) < (nv : Int) + 1 by omega); omega
    rw [← hn]
    clear hn
    go_wp2
    go_loopw [20] (fun x wr => ∃ k : Nat, x = .int .i64 k ∧ k ≤ n ∧ CrA W3 s0 p zs ls 1 av nv cv k wr) (fun x _ => n - (intOf x).toNat)
    case atStart => exact ⟨0, rfl, Nat.zero_le _, H6.out⟩
    case round =>
      obtain ⟨k, rfl, hk, st⟩ := hrel
      rcases Nat.lt_or_ge k n with hlt | hge
      · obtain ⟨b, off, A9, L9, C9, hav, d0, cA⟩ := cr_app st HL.out.2.2.2.2.2.2.1 HL.out.2.2.2.2.2.2.2.1 HL.out.2.1 HL.out.2.2.2.1 HL.out.2.2.1 (by have := HL.out.2.2.2.2.1; omega)
        have HA : Hid (Calls Try.prog 31 #[.pointer (some ⟨p, 0, none⟩), .int .i64 1, .slice A9 L9 C9] wr fun e w' => (∃ v, e = .returned v) ∧ CrA W3 s0 p zs ls 1 av nv cv (k + 1) w') := cA
        have HV : Hid (av = some ⟨b, off, none⟩) := hav
        clear st cA H6
        have hk' : (k : Int) < n := by omega
        have hkv : (k : Int) < nv := by omega
        have hwk : IntKind.i64.wrap ((k : Int) + 1) = (k : Int) + 1 := by rw [IntKind.wrap_i64]; omega
        rw [hav]
        clear hav
        go_wp2_with (go_at_call 31; refine HA.out.mono ?_; rintro e w9 ⟨⟨v9, rfl⟩, st9⟩)
        rw [← HV.out]
        go_roundw
        case rel => exact ⟨k + 1, by simp, by omega, st9⟩
        case measure => simp [intOf]; omega
      · obtain rfl : k = n := by omega
        have HCr : Hid (Calls Try.prog 32 #[.pointer (some ⟨p, 0, none⟩), .slice a5 n5 c5] wr fun e w' => (∃ v, e = .returned v) ∧ CrB W3 s0 p (crashZ x5 (zs.set 1 (ls.take k, 0))) w') := cr_crash st HL.out.2.2.2.2.2.2.1 HL.out.2.1 HL.out.2.2.2.1 (H1.out.2.2.2.2.2.2.1.below H3.out.2)
        have hk' : ¬ (k : Int) < k := by omega
        have hbest := cr_best (s := s0) (one := 0) (n := k) (S0 := s1) (S1 := s2) (ps0 := x1) (ps1 := x2) (by decide) HR.out.1 H1.out.2.2.2.2.1 H1.out.2.2.2.2.2.1 (fun x hx => (H1.out.1.2.2.1 x hx).1) (fun x hx => (H1.out.2.1.2.2.1 x hx).1) HL.out.2.2.2.2.2.2.2.2.1 HL.out.2.2.2.2.2.2.2.2.2 HR.out.2.2 (by rw [← HL.out.1, ← HL.out.2.2.2.2.1]; exact hnn) x5
        rw [← HL.out.1, ← HL.out.2.2.2.2.2.1, ← HL.out.2.2.2.2.1] at hbest
        clear st H6
        go_upto_region 21 with (go_at_call 32; refine HCr.out.mono ?_; rintro e W7 ⟨⟨v7, rfl⟩, st7⟩)
        have bel7 := st7.bel
        obtain ⟨O7, hd7, hwf7, _, _⟩ := st7
        rcases hbest with hb | ⟨hkn, hb⟩
        · have HLd : Hid (Calls Try.prog 22 #[.pointer (some ⟨p, 0, none⟩)] W7 fun e V' => ∃ A N C, e = .returned (.tuple #[.agg #[.int .u64 s1, .slice A N C], .int .i64 0, .int .u16 0]) ∧ KIn V' A N x1 ∧ Below W3.heap.size W3 V') := by
            refine (kload_of hd7 hwf7).mono ?_
            rintro e V' ⟨A, N, C, rfl, h1, h2, h3⟩
            replace hb : bestK s0 (crashZ x5 (zs.set 1 (ls.take k, 0))) 2 = (s1, x1, (0 : Int), 0) := hb
            rw [hb] at h1 ⊢
            exact ⟨A, N, C, rfl, h1, bel7.trans (h3.mono bel7.size)⟩
          clear hb bel7 hd7 hwf7 HCr
          go_upto_region 22 with (go_at_call 22; refine HLd.out.mono ?_; rintro e W8 ⟨A8, N8, C8, rfl, k8, b8⟩)
          obtain ⟨q9, hq9⟩ : ∃ q9, q9 = W8.heap.size := ⟨_, rfl⟩
          have H9 : Hid (Blk (W8.alloc (.cells #[.int .u64 s1, .slice A8 N8 C8] 27)) q9 [.int .u64 s1, .slice A8 N8 C8] 27 ∧ Below W3.heap.size W3 (W8.alloc (.cells #[.int .u64 s1, .slice A8 N8 C8] 27)) ∧ KIn (W8.alloc (.cells #[.int .u64 s1, .slice A8 N8 C8] 27)) A8 N8 x1) := ⟨Blk.new' hq9.symm rfl, b8.alloc b8.size _, k8.alloc _⟩
          rw [← hq9]
          clear hq9 b8 k8 HLd
          generalize hW9 : World.alloc W8 _ = W9 at H9 ⊢
          clear hW9
          have i0 : W9.cell? ⟨q9, 0, none⟩ = some (.int .u64 s1) := H9.out.1.cell 0
          have i1 : W9.cell? ⟨q9, 1, none⟩ = some (.slice A8 N8 C8) := H9.out.1.cell 1
          obtain ⟨-, ⟨o0, o1⟩, -⟩ := HC.out W9 (H3.out.1.trans (H9.out.2.1.mono H3.out.1.size))
          have bw9 : Below w.heap.size w W9 := H3.out.2.trans (H9.out.2.1.mono H3.out.2.size)
          have HM : Hid (Below w.heap.size w W9 ∧ Calls Try.prog 18 #[.agg #[.int .u64 s1, .slice A8 N8 C8], .agg #[.int .u64 s1, .slice A1 n1 C1]] W9 fun e w' => e = .returned (.bool true) ∧ Below W9.heap.size W9 w') := ⟨bw9, dkSame_of s1 A8 N8 C8 A1 n1 C1 x1 W9 H9.out.2.2 (H1.out.1.below bw9)⟩
          clear bw9
          go_wp2_with (go_at_call 18; refine HM.out.2.mono ?_; rintro e Y ⟨rfl, bY⟩)
          go_ret
          exact ⟨rfl, HM.out.1.trans (bY.mono HM.out.1.size)⟩
        · have HLd : Hid (Calls Try.prog 22 #[.pointer (some ⟨p, 0, none⟩)] W7 fun e V' => ∃ A N C, e = .returned (.tuple #[.agg #[.int .u64 s2, .slice A N C], .int .i64 1, .int .u16 0]) ∧ KIn V' A N x2 ∧ Below W3.heap.size W3 V') := by
            refine (kload_of hd7 hwf7).mono ?_
            rintro e V' ⟨A, N, C, rfl, h1, h2, h3⟩
            replace hb : bestK s0 (crashZ x5 (zs.set 1 (ls.take k, 0))) 2 = (s2, x2, (1 : Int), 0) := hb
            rw [hb] at h1 ⊢
            exact ⟨A, N, C, rfl, h1, bel7.trans (h3.mono bel7.size)⟩
          have hkk : (k : Int) = (nv : Int) := by omega
          clear hb bel7 hd7 hwf7 HCr
          go_upto_region 22 with (go_at_call 22; refine HLd.out.mono ?_; rintro e W8 ⟨A8, N8, C8, rfl, k8, b8⟩)
          obtain ⟨q9, hq9⟩ : ∃ q9, q9 = W8.heap.size := ⟨_, rfl⟩
          have H9 : Hid (Blk (W8.alloc (.cells #[.int .u64 s2, .slice A8 N8 C8] 27)) q9 [.int .u64 s2, .slice A8 N8 C8] 27 ∧ Below W3.heap.size W3 (W8.alloc (.cells #[.int .u64 s2, .slice A8 N8 C8] 27)) ∧ KIn (W8.alloc (.cells #[.int .u64 s2, .slice A8 N8 C8] 27)) A8 N8 x2) := ⟨Blk.new' hq9.symm rfl, b8.alloc b8.size _, k8.alloc _⟩
          rw [← hq9]
          clear hq9 b8 k8 HLd
          generalize hW9 : World.alloc W8 _ = W9 at H9 ⊢
          clear hW9
          have i0 : W9.cell? ⟨q9, 0, none⟩ = some (.int .u64 s2) := H9.out.1.cell 0
          have i1 : W9.cell? ⟨q9, 1, none⟩ = some (.slice A8 N8 C8) := H9.out.1.cell 1
          obtain ⟨-, -, p0, p1⟩ := HC.out W9 (H3.out.1.trans (H9.out.2.1.mono H3.out.1.size))
          have bw9 : Below w.heap.size w W9 := H3.out.2.trans (H9.out.2.1.mono H3.out.2.size)
          have HM : Hid (Below w.heap.size w W9 ∧ Calls Try.prog 18 #[.agg #[.int .u64 s2, .slice A8 N8 C8], .agg #[.int .u64 s2, .slice A2 n2 C2]] W9 fun e w' => e = .returned (.bool true) ∧ Below W9.heap.size W9 w') := ⟨bw9, dkSame_of s2 A8 N8 C8 A2 n2 C2 x2 W9 H9.out.2.2 (H1.out.2.1.below bw9)⟩
          clear bw9
          go_wp2_with (go_at_call 18; refine HM.out.2.mono ?_; rintro e Y ⟨rfl, bY⟩)
          go_ret
          exact ⟨rfl, HM.out.1.trans (bY.mono HM.out.1.size)⟩
  · go_upto_region 10 with (go_at_call 29; refine HN.out.mono ?_; rintro e W4 ⟨p, rfl, st4⟩)
    have bel4 := st4.bel
    obtain ⟨⟨e0, e1, e2, e3⟩, ⟨o0, o1⟩, p0, p1⟩ := HC.out W4 (H3.out.1.trans (bel4.mono H3.out.1.size))
    have HSv : Hid (Calls Try.prog 24 #[.pointer (some ⟨p, 0, none⟩), .int .i64 1, .agg #[.int .u64 s1, .slice A1 n1 C1]] W4 fun e W' => ∃ E, e = .returned (.int .u16 E) ∧ (E = 0 → ckE s0 x1 = 0 ∧ CrB W3 s0 p (putZ (emptyZ s0.z.toNat) 1 (ckL s0 s1 x1)) W') ∧ Below W3.heap.size W3 W') := cr_save (slot := 1) st4 (by decide) H1.out.2.2.2.2.1 (H1.out.1.below H3.out.2) H1.out.2.2.1
    clear st4 bel4
    go_upto_region 11 with (go_at_call 24; refine HSv.out.mono ?_; rintro e W5 ⟨E, rfl, h5⟩)
    have H5 : Hid ((E = 0 → ckE s0 x1 = 0 ∧ CrB W3 s0 p (putZ (emptyZ s0.z.toNat) 1 (ckL s0 s1 x1)) W5) ∧ Below W3.heap.size W3 W5) := h5
    clear h5 HSv e0 e1 e2 e3 o0 o1 p0 p1
    obtain ⟨⟨e0, e1, e2, e3⟩, ⟨o0, o1⟩, p0, p1⟩ := HC.out W5 (H3.out.1.trans (H5.out.2.mono H3.out.1.size))
    go_upto_region 12 with (go_at_call 9; refine (HEn.out _ H5.out.2).mono ?_; rintro e Z ⟨av, nv, cv, rfl, row, bZ⟩)
    have HZ : Hid (RowAt (fun j => W5.heap.size ≤ j) Z (.slice av nv cv) (ckO s0 s2 x2) ∧ Below W5.heap.size W5 Z ∧ Below w.heap.size w Z) := ⟨row, bZ, by have h1 := H3.out.2.trans (H5.out.2.mono H3.out.2.size); exact h1.trans (bZ.mono h1.size)⟩
    clear row bZ HEn HN e0 e1 e2 e3 o0 o1 p0 p1
    by_cases hE : E = 0
    rotate_left
    · go_wp2
      go_ret
      exact ⟨rfl, HZ.out.2.2⟩
    by_cases hE2 : E2 = 0
    rotate_left
    · subst hE
      go_wp2
      go_ret
      exact ⟨rfl, HZ.out.2.2⟩
    subst hE
    subst hE2
    obtain ⟨ls, hls⟩ : ∃ ls, ls = ckL s0 s2 x2 := ⟨_, rfl⟩
    have hck := HR.out.2.1.symm
    have hO : ckO s0 s2 x2 = ls := by unfold ckO; rw [if_pos hck, hls]
    have hsz := ckL_size (seq := s2) hck
    have hsh := ckL_short (seq := s2) hck
    rw [← hls] at hsz hsh
    have hlz : (ls.length : Int) ≤ s0.zb := by rw [hls, ckL_length]; exact (ckE_zero.1 hck).2
    have hnv : nv = ls.length := by obtain ⟨_, _, e⟩ := HZ.out.1.slice; cases e; rw [hO]
    obtain ⟨h51, h52⟩ := H5.out.1 rfl
    obtain ⟨zs, hzs⟩ : ∃ zs, zs = putZ (emptyZ s0.z.toNat) 1 (ckL s0 s1 x1) := ⟨_, rfl⟩
    have hwf : Wf s0 zs := by rw [hzs]; exact wf_putZ (empty_wf HR.out.1) 1 h51
    rw [← hzs] at h52
    have hzl : 0 < zs.length := by have h1 := hwf.len; have h2 := hwf.right.1; omega
    have hnv4 : nv ≤ 4096 := by have h1 := HR.out.1.2.2.2.1; omega
    have row' : RowAt (fun j => W5.heap.size ≤ j) Z (.slice av nv cv) ls := by rw [← hO]; exact HZ.out.1
    have HRs : Hid (Calls Try.prog 30 #[.pointer (some ⟨p, 0, none⟩), .int .i64 0] Z fun e w' => (∃ v, e = .returned v) ∧ CrA W3 s0 p zs ls 0 av nv cv 0 w') := cr_reset 0 h52 HZ.out.2.1 row'
    have HL : Hid (ls = ckL s0 s2 x2 ∧ (∀ D ∈ ls, (D.length : Int) = s0.b) ∧ Short ls ∧ (ls.length : Int) ≤ s0.zb ∧ nv = ls.length ∧ zs = putZ (emptyZ s0.z.toNat) 1 (ckL s0 s1 x1) ∧ Wf s0 zs ∧ 0 < zs.length ∧ ckE s0 x1 = 0 ∧ ckE s0 x2 = 0) := ⟨hls, hsz, hsh, hlz, hnv, hzs, hwf, hzl, h51, hck⟩
    clear hls hsz hsh hlz hnv hzs hwf hzl h51 hck h52 row' hO H5
    go_upto_region 16 with (go_at_call 30; refine HRs.out.mono ?_; rintro e W6 ⟨⟨v6, rfl⟩, st6⟩)
    have H6 : Hid (CrA W3 s0 p zs ls 0 av nv cv 0 W6) := st6
    clear st6 HRs
    generalize hM : (if a4 < 0 then (0 : Int) else a4) = M
    clear hM
    obtain ⟨n, hn⟩ : ∃ n : Nat, (n : Int) = M % (↑nv + 1) := ⟨(M % ((nv : Int) + 1)).toNat, Int.toNat_of_nonneg (Int.emod_nonneg _ (by omega))⟩
    have hnn : n ≤ nv := by have := Int.emod_lt_of_pos M (show (0 : Int) < (nv : Int) + 1 by omega); omega
    rw [← hn]
    clear hn
    go_wp2
    go_loopw [20] (fun x wr => ∃ k : Nat, x = .int .i64 k ∧ k ≤ n ∧ CrA W3 s0 p zs ls 0 av nv cv k wr) (fun x _ => n - (intOf x).toNat)
    case atStart => exact ⟨0, rfl, Nat.zero_le _, H6.out⟩
    case round =>
      obtain ⟨k, rfl, hk, st⟩ := hrel
      rcases Nat.lt_or_ge k n with hlt | hge
      · obtain ⟨b, off, A9, L9, C9, hav, d0, cA⟩ := cr_app st HL.out.2.2.2.2.2.2.1 HL.out.2.2.2.2.2.2.2.1 HL.out.2.1 HL.out.2.2.2.1 HL.out.2.2.1 (by have := HL.out.2.2.2.2.1; omega)
        have HA : Hid (Calls Try.prog 31 #[.pointer (some ⟨p, 0, none⟩), .int .i64 0, .slice A9 L9 C9] wr fun e w' => (∃ v, e = .returned v) ∧ CrA W3 s0 p zs ls 0 av nv cv (k + 1) w') := cA
        have HV : Hid (av = some ⟨b, off, none⟩) := hav
        clear st cA H6
        have hk' : (k : Int) < n := by omega
        have hkv : (k : Int) < nv := by omega
        have hwk : IntKind.i64.wrap ((k : Int) + 1) = (k : Int) + 1 := by rw [IntKind.wrap_i64]; omega
        rw [hav]
        clear hav
        go_wp2_with (go_at_call 31; refine HA.out.mono ?_; rintro e w9 ⟨⟨v9, rfl⟩, st9⟩)
        rw [← HV.out]
        go_roundw
        case rel => exact ⟨k + 1, by simp, by omega, st9⟩
        case measure => simp [intOf]; omega
      · obtain rfl : k = n := by omega
        have HCr : Hid (Calls Try.prog 32 #[.pointer (some ⟨p, 0, none⟩), .slice a5 n5 c5] wr fun e w' => (∃ v, e = .returned v) ∧ CrB W3 s0 p (crashZ x5 (zs.set 0 (ls.take k, 0))) w') := cr_crash st HL.out.2.2.2.2.2.2.1 HL.out.2.1 HL.out.2.2.2.1 (H1.out.2.2.2.2.2.2.1.below H3.out.2)
        have hk' : ¬ (k : Int) < k := by omega
        have hbest := cr_best (s := s0) (one := 1) (n := k) (S0 := s1) (S1 := s2) (ps0 := x1) (ps1 := x2) (by decide) HR.out.1 H1.out.2.2.2.2.1 H1.out.2.2.2.2.2.1 (fun x hx => (H1.out.1.2.2.1 x hx).1) (fun x hx => (H1.out.2.1.2.2.1 x hx).1) HL.out.2.2.2.2.2.2.2.2.1 HL.out.2.2.2.2.2.2.2.2.2 HR.out.2.2 (by rw [← HL.out.1, ← HL.out.2.2.2.2.1]; exact hnn) x5
        rw [← HL.out.1, ← HL.out.2.2.2.2.2.1, ← HL.out.2.2.2.2.1] at hbest
        clear st H6
        go_upto_region 21 with (go_at_call 32; refine HCr.out.mono ?_; rintro e W7 ⟨⟨v7, rfl⟩, st7⟩)
        have bel7 := st7.bel
        obtain ⟨O7, hd7, hwf7, _, _⟩ := st7
        rcases hbest with hb | ⟨hkn, hb⟩
        · have HLd : Hid (Calls Try.prog 22 #[.pointer (some ⟨p, 0, none⟩)] W7 fun e V' => ∃ A N C, e = .returned (.tuple #[.agg #[.int .u64 s1, .slice A N C], .int .i64 1, .int .u16 0]) ∧ KIn V' A N x1 ∧ Below W3.heap.size W3 V') := by
            refine (kload_of hd7 hwf7).mono ?_
            rintro e V' ⟨A, N, C, rfl, h1, h2, h3⟩
            replace hb : bestK s0 (crashZ x5 (zs.set 0 (ls.take k, 0))) 2 = (s1, x1, (1 : Int), 0) := hb
            rw [hb] at h1 ⊢
            exact ⟨A, N, C, rfl, h1, bel7.trans (h3.mono bel7.size)⟩
          clear hb bel7 hd7 hwf7 HCr
          go_upto_region 22 with (go_at_call 22; refine HLd.out.mono ?_; rintro e W8 ⟨A8, N8, C8, rfl, k8, b8⟩)
          obtain ⟨q9, hq9⟩ : ∃ q9, q9 = W8.heap.size := ⟨_, rfl⟩
          have H9 : Hid (Blk (W8.alloc (.cells #[.int .u64 s1, .slice A8 N8 C8] 27)) q9 [.int .u64 s1, .slice A8 N8 C8] 27 ∧ Below W3.heap.size W3 (W8.alloc (.cells #[.int .u64 s1, .slice A8 N8 C8] 27)) ∧ KIn (W8.alloc (.cells #[.int .u64 s1, .slice A8 N8 C8] 27)) A8 N8 x1) := ⟨Blk.new' hq9.symm rfl, b8.alloc b8.size _, k8.alloc _⟩
          rw [← hq9]
          clear hq9 b8 k8 HLd
          generalize hW9 : World.alloc W8 _ = W9 at H9 ⊢
          clear hW9
          have i0 : W9.cell? ⟨q9, 0, none⟩ = some (.int .u64 s1) := H9.out.1.cell 0
          have i1 : W9.cell? ⟨q9, 1, none⟩ = some (.slice A8 N8 C8) := H9.out.1.cell 1
          obtain ⟨-, ⟨o0, o1⟩, -⟩ := HC.out W9 (H3.out.1.trans (H9.out.2.1.mono H3.out.1.size))
          have bw9 : Below w.heap.size w W9 := H3.out.2.trans (H9.out.2.1.mono H3.out.2.size)
          have HM : Hid (Below w.heap.size w W9 ∧ Calls Try.prog 18 #[.agg #[.int .u64 s1, .slice A8 N8 C8], .agg #[.int .u64 s1, .slice A1 n1 C1]] W9 fun e w' => e = .returned (.bool true) ∧ Below W9.heap.size W9 w') := ⟨bw9, dkSame_of s1 A8 N8 C8 A1 n1 C1 x1 W9 H9.out.2.2 (H1.out.1.below bw9)⟩
          clear bw9
          go_wp2_with (go_at_call 18; refine HM.out.2.mono ?_; rintro e Y ⟨rfl, bY⟩)
          go_ret
          exact ⟨rfl, HM.out.1.trans (bY.mono HM.out.1.size)⟩
        · have HLd : Hid (Calls Try.prog 22 #[.pointer (some ⟨p, 0, none⟩)] W7 fun e V' => ∃ A N C, e = .returned (.tuple #[.agg #[.int .u64 s2, .slice A N C], .int .i64 0, .int .u16 0]) ∧ KIn V' A N x2 ∧ Below W3.heap.size W3 V') := by
            refine (kload_of hd7 hwf7).mono ?_
            rintro e V' ⟨A, N, C, rfl, h1, h2, h3⟩
            replace hb : bestK s0 (crashZ x5 (zs.set 0 (ls.take k, 0))) 2 = (s2, x2, (0 : Int), 0) := hb
            rw [hb] at h1 ⊢
            exact ⟨A, N, C, rfl, h1, bel7.trans (h3.mono bel7.size)⟩
          have hkk : (k : Int) = (nv : Int) := by omega
          clear hb bel7 hd7 hwf7 HCr
          go_upto_region 22 with (go_at_call 22; refine HLd.out.mono ?_; rintro e W8 ⟨A8, N8, C8, rfl, k8, b8⟩)
          obtain ⟨q9, hq9⟩ : ∃ q9, q9 = W8.heap.size := ⟨_, rfl⟩
          have H9 : Hid (Blk (W8.alloc (.cells #[.int .u64 s2, .slice A8 N8 C8] 27)) q9 [.int .u64 s2, .slice A8 N8 C8] 27 ∧ Below W3.heap.size W3 (W8.alloc (.cells #[.int .u64 s2, .slice A8 N8 C8] 27)) ∧ KIn (W8.alloc (.cells #[.int .u64 s2, .slice A8 N8 C8] 27)) A8 N8 x2) := ⟨Blk.new' hq9.symm rfl, b8.alloc b8.size _, k8.alloc _⟩
          rw [← hq9]
          clear hq9 b8 k8 HLd
          generalize hW9 : World.alloc W8 _ = W9 at H9 ⊢
          clear hW9
          have i0 : W9.cell? ⟨q9, 0, none⟩ = some (.int .u64 s2) := H9.out.1.cell 0
          have i1 : W9.cell? ⟨q9, 1, none⟩ = some (.slice A8 N8 C8) := H9.out.1.cell 1
          obtain ⟨-, -, p0, p1⟩ := HC.out W9 (H3.out.1.trans (H9.out.2.1.mono H3.out.1.size))
          have bw9 : Below w.heap.size w W9 := H3.out.2.trans (H9.out.2.1.mono H3.out.2.size)
          have HM : Hid (Below w.heap.size w W9 ∧ Calls Try.prog 18 #[.agg #[.int .u64 s2, .slice A8 N8 C8], .agg #[.int .u64 s2, .slice A2 n2 C2]] W9 fun e w' => e = .returned (.bool true) ∧ Below W9.heap.size W9 w') := ⟨bw9, dkSame_of s2 A8 N8 C8 A2 n2 C2 x2 W9 H9.out.2.2 (H1.out.2.1.below bw9)⟩
          clear bw9
          go_wp2_with (go_at_call 18; refine HM.out.2.mono ?_; rintro e Y ⟨rfl, bY⟩)
          go_ret
          exact ⟨rfl, HM.out.1.trans (bY.mono HM.out.1.size)⟩

set_option maxRecDepth 100000 in
theorem lifted (os : Os) (started : os.Started) (H : Type) (enc : TypeId × Value → H) :
    ReturnsInHanded {} Try.checked os 6 .any (Rows.ckptCrashSpec.pre6 enc Try.prog Try.f6 Rows.ckptCrashRow.domain false) (Rows.ckptCrashSpec.post enc Try.prog Try.f6 false true false false) := by
  refine returnsInHanded_of_change (C := Try.checked) own started (by kernel_rfl) Try.func6
    (ChangeSpec.witness6 (enc := enc) (C := Try.checked) false ⟨#[], #[.agg #[.int .i64 0, .int .i64 0, .int .i64 0, .int .i64 0], .agg #[.int .u64 0, .slice none 0 0], .agg #[.int .u64 0, .slice none 0 0], .bool false, .int .i64 0, .slice none 0 0], []⟩ 8 (by kernel_rfl) (by kernel_rfl) (by kernel_rfl) (by kernel_rfl)) ?_
  intro W base args ds gs before hval0 hW hcnd _
  have hval : ∀ (j : Nat) t v, Try.f6.params[j]? = some t → args[j]? = some v → Value.okWide Try.prog W .any base t v := hval0
  have hW' := hW
  obtain ⟨p, q, hA0, hV, rfl, hfz, hnd⟩ := hW
  have hA : DataW.TrodAll enc Try.prog W 0 (fun _ => true) true Try.f6.params.toList args.toList ds p := hA0
  rw [Try.params6] at hA hval
  obtain ⟨v0, vs0, d0, ds0, p0, q0, hargs, rfl, rfl, h0, r0⟩ := trodAll_cons hA
  obtain ⟨v1, vs1, d1, ds1, p1, q1, rfl, rfl, rfl, h1, r1⟩ := trodAll_cons r0
  obtain ⟨v2, vs2, d2, ds2, p2, q2, rfl, rfl, rfl, h2, r2⟩ := trodAll_cons r1
  obtain ⟨v3, vs3, d3, ds3, p3, q3, rfl, rfl, rfl, h3, r3⟩ := trodAll_cons r2
  obtain ⟨v4, vs4, d4, ds4, p4, q4, rfl, rfl, rfl, h4, r4⟩ := trodAll_cons r3
  obtain ⟨v5, vs5, d5, ds5, p5, q5, rfl, rfl, rfl, h5, r5⟩ := trodAll_cons r4
  obtain ⟨rfl, rfl, rfl⟩ := trodAll_nil r5
  obtain rfl : args = #[v0, v1, v2, v3, v4, v5] := by cases args; simp_all
  obtain ⟨rfl, rfl⟩ := trodVars_none hV
  have k0 := h0
  have lt0 : ∀ x ∈ p0, x.block < W.heap.size := by obtain ⟨m, hm⟩ := k0; exact DataW.trod_lt m _ _ _ hm
  obtain ⟨s0, rfl, w0⟩ := open_shape (hval 0 23 v0 rfl rfl) h0
  have k1 := h1
  have lt1 : ∀ x ∈ p1, x.block < W.heap.size := by obtain ⟨m, hm⟩ := k1; exact DataW.trod_lt m _ _ _ hm
  obtain ⟨s1, A1, n1, C1, x1, rfl, w1⟩ := open_state (hval 1 27 v1 rfl rfl) h1
  have k2 := h2
  have lt2 : ∀ x ∈ p2, x.block < W.heap.size := by obtain ⟨m, hm⟩ := k2; exact DataW.trod_lt m _ _ _ hm
  obtain ⟨s2, A2, n2, C2, x2, rfl, w2⟩ := open_state (hval 2 27 v2 rfl rfl) h2
  obtain ⟨a3, rfl, rfl, rfl⟩ := open_bool Try.underlying4 (hval 3 4 v3 rfl rfl) h3
  obtain ⟨a4, rfl, rfl, rfl, w4⟩ := open_int Try.underlying3 (hval 4 3 v4 rfl rfl) h4
  obtain ⟨a5, n5, c5, rfl⟩ := okWide_slice Try.underlying63 (hval 5 63 v5 rfl rfl)
  have k5 := h5
  have lt5 : ∀ x ∈ p5, x.block < W.heap.size := by obtain ⟨m, hm⟩ := k5; exact DataW.trod_lt m _ _ _ hm
  obtain ⟨x5, w5⟩ := open_losses h5
  clear hA0 hval0
  refine (walk s0 s1 A1 n1 C1 x1 s2 A2 n2 C2 x2 a3 a4 a5 n5 c5 x5 W w0 w1 w2 w4 w5).mono fun e W' ⟨he, bel⟩ => ?_
  subst he
  exact ⟨_, rfl, _, _, _, [], _, [], hW', trodAll_mk1 (shut_bool Try.underlying4 _), (trodAll_cons_mk (Below.trod laidOut (by kernel_rfl) (of_decide_eq_true (by kernel_rfl)) k0 bel lt0) (trodAll_cons_mk (Below.trod laidOut (by kernel_rfl) (of_decide_eq_true (by kernel_rfl)) k1 bel lt1) (trodAll_cons_mk (Below.trod laidOut (by kernel_rfl) (of_decide_eq_true (by kernel_rfl)) k2 bel lt2) (trodAll_cons_mk (shut_bool Try.underlying4 _) (trodAll_cons_mk (shut_int Try.underlying3 w4) (trodAll_cons_mk (Below.trod laidOut (by kernel_rfl) (of_decide_eq_true (by kernel_rfl)) k5 bel lt5) trodAll_mk0)))))), rfl, bel.frame _, fun h => by cases h⟩

theorem over : Rows.ckptCrashRow.holds Try.pinned (OpenSpec.ofChange Rows.ckptCrashSpec) :=
  OpenClaim.holds_of_wide 6 Try.f6 rfl rfl rfl rfl rfl rfl rfl ⟨rfl, rfl, rfl, rfl, rfl⟩ rfl rfl rfl rfl rfl (by kernel_rfl) Try.func6 (by kernel_rfl)
    (of_decide_eq_true (by kernel_rfl)) (by unfold Func.isWrapper; first | (rw [if_pos (by decide +kernel)]; kernel_rfl) | (rw [if_neg (by decide +kernel)]; exact ⟨rfl, rfl⟩))
    (fun os started H enc _ => lifted os started H enc)

end Go.Proofs.Yteokhkoaieibmaa.ckptCrash
namespace Go.Proofs.Yteokhkoaieibmaa
/-- The statement. -/
theorem ckptCrash_holds : Rows.CkptCrashSaid := ckptCrash.over
#print axioms ckptCrash_holds
end Go.Proofs.Yteokhkoaieibmaa
