/- CkptOther: saving a checkpoint changes one zone alone, and makes all be there for good; for any shape, zones, slot and state. -/
import Derived.Test.YteokhkoaieibmaaRows
import Derived.Test.YteokhkoaieibmaaJ15
import Derived.Test.YteokhkoaieibmaaJ16
import Derived.Test.YteokhkoaieibmaaJ12
import Derived.BigQuiet
import Derived.WalkKit
import Derived.ProofKit
import Derived.OpenShut
import Derived.ShutString
import Derived.ChangeOld
import Derived.Below
namespace Go.Proofs.Yteokhkoaieibmaa.ckptOther
open Go.ChangeShapes Go.WideShapes Go.ChangeAt Go.RowKit
open Go.ChangeMaps (open_string shut_string)
set_option linter.unusedVariables false

theorem own : ownKnob Try.prog.godebug = none := by kernel_rfl
theorem laidOut : laidOutB Try.prog = true := by kernel_rfl

theorem cr_save2 {V W : World} {s : Sh} {p slot : Nat} {zs : List Zn} {S : Int} {A : Option Addr} {N C : Nat} {ps : List Pl} (h : CrB V s p zs W) (hs : slot < 2) (hF : FitsU S) (hk : KIn V A N ps) (hN : N ≤ C) :
    Calls Try.prog 24 #[.pointer (some ⟨p, 0, none⟩), .int .i64 (slot : Int), .agg #[.int .u64 S, .slice A N C]] W fun e W' => ∃ E, e = .returned (.int .u16 E) ∧ (E = 0 → ckE s ps = 0 ∧ CrB V s p (putZ zs slot (ckL s S ps)) W') ∧ (E ≠ 0 → CrB V s p zs W') := by
  obtain ⟨O, hd, hw, hO, hb⟩ := h
  refine (ksave_of (slot : Int) S A N C ps hd hw hF (hk.below hb) hN).mono ?_
  rintro e W' ⟨rfl, O', hd', hO', ho⟩
  have hbV' : Below V.heap.size V W' := hb.trans (ho.below hb.size (fun x hx => (hO x hx).1))
  have hO2 : ∀ x, O' x ∧ x < W'.heap.size → V.heap.size ≤ x ∧ x < W'.heap.size := by
    intro x hx
    refine ⟨?_, hx.2⟩
    rcases hO' x hx.1 with h | h
    · exact (hO x h).1
    · have := hb.size; omega
  refine ⟨_, rfl, fun hE => ?_, fun hE => ?_⟩
  · have hck : ckE s ps = 0 := by unfold svE at hE; rwa [if_pos (by omega)] at hE
    rw [(svZ_ok (zs := zs) (seq := S) hs hck).2] at hd'
    exact ⟨hck, _, hd'.there, wf_putZ hw slot hck, hO2, hbV'⟩
  · have : svZ s zs slot S ps = zs := by unfold svZ; rw [if_neg hE]
    rw [this] at hd'
    exact ⟨_, hd'.there, hw, hO2, hbV'⟩
set_option maxRecDepth 20000 in
set_option maxHeartbeats 16000000 in
theorem walk (s0 : Sh) (a1 : Option Addr) (n1 c1 : Nat) (x1 : List Zn) (a2 : Bool) (s3 : Int) (A3 : Option Addr) (n3 C3 : Nat) (x3 : List Pl) (w : World) (w0 : ShF s0) (w1 : ZsRaw w a1 n1 x1 ∧ ZnF x1) (w3 : FitsU s3 ∧ KIn w A3 n3 x3 ∧ n3 ≤ C3 ∧ (A3 = none → n3 = 0 ∧ C3 = 0)) :
    Calls Try.prog 8 #[.agg (shL s0).toArray, .slice a1 n1 c1, .bool a2, .agg #[.int .u64 s3, .slice A3 n3 C3]] w fun e w' => e = .returned (.bool true) ∧ Below w.heap.size w w' := by
  obtain ⟨f3, k3, l3, _⟩ := w3
  obtain ⟨q, hq⟩ : ∃ q, q = w.heap.size := ⟨_, rfl⟩
  have H1 : Hid (KIn w A3 n3 x3 ∧ n3 ≤ C3 ∧ FitsU s3 ∧ ZsRaw w a1 n1 x1 ∧ -9223372036854775808 ≤ s0.z) := ⟨k3, l3, f3, w1.1, w0.1.1⟩
  clear k3 l3 f3 w0 w1
  have HB0 : Hid (Blk ((w.alloc (.cells #[.int .i64 s0.z, .int .i64 s0.zb, .int .i64 s0.b, .int .i64 s0.r] 23)).alloc (.cells #[.int .u64 s3, .slice A3 n3 C3] 27)) q (shL s0) 23 ∧ Blk ((w.alloc (.cells #[.int .i64 s0.z, .int .i64 s0.zb, .int .i64 s0.b, .int .i64 s0.r] 23)).alloc (.cells #[.int .u64 s3, .slice A3 n3 C3] 27)) (q + 1) [.int .u64 s3, .slice A3 n3 C3] 27 ∧ Below w.heap.size w ((w.alloc (.cells #[.int .i64 s0.z, .int .i64 s0.zb, .int .i64 s0.b, .int .i64 s0.r] 23)).alloc (.cells #[.int .u64 s3, .slice A3 n3 C3] 27))) :=
    ⟨(Blk.new' hq.symm rfl).alloc _, Blk.new' (by simp [hq]) rfl, ((Below.refl _ _).alloc (Nat.le_refl _) _).alloc (by simp) _⟩
  simp only [shL]
  go_enter Try.func8, Try.ntmps8
  go_upto_region 1 with fail
  rw [← hq]
  generalize hW1 : World.alloc (World.alloc w _) _ = W1 at HB0 ⊢
  clear hW1 hq
  have HC : Hid (∀ V : World, Below W1.heap.size W1 V → (V.cell? ⟨q, 0, none⟩ = some (.int .i64 s0.z) ∧ V.cell? ⟨q, 1, none⟩ = some (.int .i64 s0.zb) ∧ V.cell? ⟨q, 2, none⟩ = some (.int .i64 s0.b) ∧ V.cell? ⟨q, 3, none⟩ = some (.int .i64 s0.r)) ∧ V.cell? ⟨q + 1, 0, none⟩ = some (.int .u64 s3) ∧ V.cell? ⟨q + 1, 1, none⟩ = some (.slice A3 n3 C3)) := by
    intro V hV
    have h := HB0.out.1.below hV HB0.out.1.lt
    have h' := HB0.out.2.1.below hV HB0.out.2.1.lt
    exact ⟨⟨h.cell 0, h.cell 1, h.cell 2, h.cell 3⟩, h'.cell 0, h'.cell 1⟩
  have HB : Hid (Below w.heap.size w W1) := HB0.out.2.2
  clear HB0
  obtain ⟨⟨e0, e1, e2, e3⟩, -⟩ := HC.out _ (Below.refl _ _)
  obtain ⟨Sm, hSm⟩ : ∃ Sm, Sm = decide (SmallS s0) := ⟨_, rfl⟩
  have HS : Hid (Calls Try.prog 19 #[.agg (shL s0).toArray] W1 fun e w' => e = .returned (.bool Sm) ∧ Below W1.heap.size W1 w') := by rw [hSm]; exact small_of s0 W1
  clear hSm
  go_upto_region 2 with (go_at_call 19; refine HS.out.mono ?_; rintro e W2 ⟨rfl, b2⟩)
  have H2 : Hid (Below W1.heap.size W1 W2 ∧ Below w.heap.size w W2) := ⟨b2, HB.out.trans (b2.mono HB.out.size)⟩
  clear HS b2 e0 e1 e2 e3
  have HK : Hid (∀ X : World, Calls Try.prog 11 #[] X fun e w' => e = .returned (.bool true) ∧ Below X.heap.size X w') := kknown_any
  have HHv : Hid (Calls Try.prog 20 #[.slice a1 n1 c1, .int .i64 200] W2 fun e w' => ∃ y : Bool, e = .returned (.bool y) ∧ w' = W2 ∧ (y = false → LightZ x1)) := tooHeavy_of a1 n1 c1 x1 W2 (H1.out.2.2.2.1.below H2.out.2)
  obtain ⟨-, o0, o1⟩ := HC.out W2 H2.out.1
  cases Sm
  · clear o0 o1
    go_wp2_with (go_at_call 11; refine (HK.out _).mono ?_; rintro e W3 ⟨rfl, b3⟩)
    go_ret
    exact ⟨rfl, H2.out.2.trans (b3.mono H2.out.2.size)⟩
  by_cases g1 : (200 : Int) < (n3 : Int)
  · go_wp2_with (first
      | (go_at_call 20; refine HHv.out.mono ?_; rintro e W3 ⟨y, rfl, hw3, hy⟩; replace hw3 := hw3.symm; subst hw3; cases y)
      | (go_at_call 11; refine (HK.out _).mono ?_; rintro e W3 ⟨rfl, b3⟩))
    all_goals go_ret
    all_goals exact ⟨rfl, H2.out.2.trans (b3.mono H2.out.2.size)⟩
  go_wp2_with (go_at_call 20; refine HHv.out.mono ?_; rintro e W3 ⟨y, rfl, hw3, hy⟩; replace hw3 := hw3.symm; subst hw3; cases y)
  rotate_left
  · refine (HK.out _).mono ?_
    rintro e W3 ⟨rfl, b3⟩
    go_wp2
    go_ret
    exact ⟨rfl, H2.out.2.trans (b3.mono H2.out.2.size)⟩
  have HL : Hid (LightZ x1) := hy (by first | rfl | trivial)
  clear hy HHv o0 o1
  refine (HK.out _).mono ?_
  rintro e W3 ⟨rfl, b3⟩
  have H3 : Hid (Below W1.heap.size W1 W3 ∧ Below w.heap.size w W3) := ⟨H2.out.1.trans (b3.mono H2.out.1.size), H2.out.2.trans (b3.mono H2.out.2.size)⟩
  clear b3
  obtain ⟨⟨e0, e1, e2, e3⟩, -⟩ := HC.out W3 H3.out.1
  have HZ3 : Hid (ZsIn W3 a1 n1 x1) := (H1.out.2.2.2.1.below H3.out.2).light HL.out
  by_cases hwf : Wf s0 x1
  rotate_left
  · have HN : Hid (Calls Try.prog 33 #[.agg (shL s0).toArray, .slice a1 n1 c1] W3 fun e w' => e = .returned (.pointer none) ∧ Below W3.heap.size W3 w') := (open_of s0 a1 n1 c1 x1 W3 H1.out.2.2.2.2 HZ3.out).mono (by rintro e w' ⟨b, (⟨_, rfl⟩ | ⟨h, _⟩)⟩; exact ⟨rfl, b⟩; exact absurd h hwf)
    clear hwf
    go_wp2_with (go_at_call 33; refine HN.out.mono ?_; rintro e W4 ⟨rfl, b4⟩)
    go_ret
    exact ⟨rfl, H3.out.2.trans (b4.mono H3.out.2.size)⟩
  have HN : Hid (Calls Try.prog 33 #[.agg (shL s0).toArray, .slice a1 n1 c1] W3 fun e w' => ∃ p, e = .returned (.pointer (some ⟨p, 0, none⟩)) ∧ CrB W3 s0 p x1 w') := (open_of s0 a1 n1 c1 x1 W3 H1.out.2.2.2.2 HZ3.out).mono (by rintro e w' ⟨b, (⟨h, _⟩ | ⟨h, p, rfl, hd⟩)⟩; exact absurd hwf h; exact ⟨p, rfl, _, hd.there, hwf, fun x hx => hx, b⟩)
  have HW : Hid (Wf s0 x1) := hwf
  clear hwf
  cases a2
  · go_upto_region 10 with (go_at_call 33; refine HN.out.mono ?_; rintro e W4 ⟨p, rfl, st4⟩)
    have bel4 := st4.bel
    obtain ⟨-, o0, o1⟩ := HC.out W4 (H3.out.1.trans (bel4.mono H3.out.1.size))
    have HSv : Hid (Calls Try.prog 24 #[.pointer (some ⟨p, 0, none⟩), .int .i64 0, .agg #[.int .u64 s3, .slice A3 n3 C3]] W4 fun e W' => ∃ E, e = .returned (.int .u16 E) ∧ (E = 0 → ckE s0 x3 = 0 ∧ CrB W3 s0 p (putZ x1 0 (ckL s0 s3 x3)) W') ∧ (E ≠ 0 → CrB W3 s0 p x1 W')) := cr_save2 (slot := 0) st4 (by decide) H1.out.2.2.1 (H1.out.1.below H3.out.2) H1.out.2.1
    clear st4 bel4 e0 e1 e2 e3
    go_wp2_with (go_at_call 24; refine HSv.out.mono ?_; rintro e W5 ⟨E, rfl, h5⟩; by_cases hE : E = 0)
    rotate_left
    · have st5 := h5.2 hE
      have bel5 := st5.bel
      obtain ⟨O5, hd5, hw5, _, _⟩ := st5
      refine (zones_of hd5 hw5).mono ?_
      rintro e W6 ⟨v6, rfl, z6, b6⟩
      obtain ⟨za, zc, hv6⟩ := z6.slice
      subst hv6
      have hb6 := bel5.trans (b6.mono bel5.size)
      have HSm := sameZones_of za x1.length zc a1 n1 c1 x1 W6 (z6.zsin HW.out.short) (HZ3.out.below hb6)
      have H6 : Hid (Below w.heap.size w W6 ∧ Calls Try.prog 26 #[.slice za x1.length zc, .slice a1 n1 c1] W6 fun e w' => e = .returned (.bool true) ∧ ∃ k, w' = W6.drewN k) := ⟨H3.out.2.trans (hb6.mono H3.out.2.size), HSm⟩
      clear h5 hE bel5 hd5 hw5 z6 b6 hb6 HSm o0 o1 HSv
      go_wp2_with (go_at_call 26; refine H6.out.2.mono ?_; rintro e W7 ⟨rfl, k7, hw7⟩)
      go_ret
      exact ⟨rfl, H6.out.1.trans ((below_drewN W6 _).mono H6.out.1.size)⟩
    · obtain ⟨hck, st5⟩ := h5.1 hE
      have bel5 := st5.bel
      obtain ⟨O5, hd5, hw5, _, _⟩ := st5
      subst hE
      refine (zones_of hd5 hw5).mono ?_
      rintro e W6 ⟨v6, rfl, z6, b6⟩
      obtain ⟨za, zc, hv6⟩ := z6.slice
      subst hv6
      have hb6 := bel5.trans (b6.mono bel5.size)
      have hzs6 : ZsIn W6 za (putZ x1 0 (ckL s0 s3 x3)).length (putZ x1 0 (ckL s0 s3 x3)) := z6.zsin hw5.short
      rw [putZ_len] at hzs6 ⊢
      obtain ⟨m, hm⟩ : ∃ m, m = x1.length := ⟨_, rfl⟩
      rw [← hm] at hzs6 ⊢
      have H6 : Hid (Below w.heap.size w W6 ∧ ZsIn W6 za m (putZ x1 0 (ckL s0 s3 x3)) ∧ ZsIn W6 a1 n1 x1 ∧ m = x1.length) := ⟨H3.out.2.trans (hb6.mono H3.out.2.size), hzs6, HZ3.out.below hb6, hm⟩
      have hm1 : m ≤ 1000 := hzs6.2.1
      clear h5 bel5 hd5 hw5 z6 b6 hb6 hzs6 hm o0 o1 HSv hck
      go_wp2
      go_loopw [13] (fun x wr => ∃ i j : Nat, x = .int .i64 i ∧ i ≤ m ∧ wr = W6.drewN j) (fun x _ => m - (intOf x).toNat)
      case atStart => exact ⟨0, 0, rfl, Nat.zero_le _, rfl⟩
      case round =>
        obtain ⟨i, j, rfl, hi, rfl⟩ := hrel
        rcases Nat.lt_or_ge i m with hlt | hge
        · have hi' : (i : Int) < m := by omega
          have hin : (i : Int) < n1 := by have := H6.out.2.2.1.1; have := H6.out.2.2.2; omega
          have hwi : IntKind.i64.wrap ((i : Int) + 1) = (i : Int) + 1 := by rw [IntKind.wrap_i64]; omega
          obtain ⟨z, hz⟩ : ∃ z, x1[i]? = some z := ⟨x1[i]'(by have := H6.out.2.2.2; omega), by simp⟩
          obtain ⟨ba, oa, rfl, hca⟩ := H6.out.2.2.1.2.2.resolve_left (by omega)
          obtain ⟨bz, oz, rfl, hcz⟩ := H6.out.2.1.2.2.resolve_left (by omega)
          obtain ⟨A8, L8, C8, y0, y1, y2⟩ := hca i z hz
          obtain ⟨V, hV⟩ : ∃ V, V = W6.drewN j := ⟨_, rfl⟩
          have y0' : ∀ t, (V.drewN t).cell? ⟨ba, oa + i * 2, none⟩ = some (.slice A8 L8 C8) := fun t => by rw [hV]; exact y0
          by_cases hik : i = 0
          · obtain ⟨z', hz'⟩ : ∃ z', (putZ x1 0 (ckL s0 s3 x3))[i]? = some z' ∧ z'.2 = z'.1.length := ⟨_, by rw [hik]; exact putZ_at (by have := H6.out.2.2.2; omega), rfl⟩
            obtain ⟨A7, L7, C7, u0, u1, u2⟩ := hcz i z' hz'.1
            have hL7 : z'.2 = (L7 : Int) := by rw [hz'.2, u2.1]
            rw [hL7] at u1
            have u0' : ∀ t, (V.drewN t).cell? ⟨bz, oz + i * 2, none⟩ = some (.slice A7 L7 C7) := fun t => by rw [hV]; exact u0
            have u1' : ∀ t, (V.drewN t).cell? ⟨bz, oz + i * 2 + 1, none⟩ = some (.int .i64 (L7 : Int)) := fun t => by rw [hV]; exact u1
            clear u0 u1 u2 y0 y1 y2 hca hcz hz hz' hL7 y0'
            have hie : ((i : Int) != 0) = false := by simp [hik]
            have HI : Hid (i = 0) := hik
            have HV : Hid (V = W6.drewN j) := hV
            rw [← hV]
            clear hik hV
            go_wp2
            go_quiet (fail)
            go_wp2
            go_roundw
            case rel => exact ⟨i + 1, j + nq, by simp, by omega, by rw [HV.out, World.drewN_drewN]⟩
            case measure => simp [intOf]; omega
          · obtain ⟨A7, L7, C7, u0, u1, u2⟩ := hcz i _ (putZ_other (ls := ckL s0 s3 x3) (fun h => hik h.symm) hz)
            have hL7 : (z.1.length : Int) = (L7 : Int) := by rw [u2.1]
            rw [hL7] at u1
            have u0' : ∀ t, (V.drewN t).cell? ⟨bz, oz + i * 2, none⟩ = some (.slice A7 L7 C7) := fun t => by rw [hV]; exact u0
            have u1' : ∀ t, (V.drewN t).cell? ⟨bz, oz + i * 2 + 1, none⟩ = some (.int .i64 (L7 : Int)) := fun t => by rw [hV]; exact u1
            have HSb : Hid (∀ t, Calls Try.prog 12 #[.slice A7 L7 C7, .slice A8 L8 C8] (V.drewN t) fun e w' => e = .returned (.bool true) ∧ ∃ k, w' = V.drewN k) := fun t => quiet_of (sameBlocks_of A7 L7 C7 A8 L8 C8 z.1 (V.drewN t) ((by rw [hV]; exact u2.below (below_drewN W6 j) : BsIn V A7 L7 z.1).below (below_drewN _ _)) ((by rw [hV]; exact y2.below (below_drewN W6 j) : BsIn V A8 L8 z.1).below (below_drewN _ _)))
            clear u0 u1 u2 y0 y1 y2 hca hcz hz hL7
            have hie : ((i : Int) != 0) = true := by simp; omega
            have hie2 : ¬ (i : Int) = 0 := by omega
            have HV : Hid (V = W6.drewN j) := hV
            rw [← hV]
            clear hik hV
            go_wp2
            go_quiet (exact HSb.out _)
            go_wp2
            go_roundw
            case rel => exact ⟨i + 1, j + nq, by simp, by omega, by rw [HV.out, World.drewN_drewN]⟩
            case measure => simp [intOf]; omega
        · have hi' : ¬ (i : Int) < m := by omega
          go_wp2
          go_ret
          exact ⟨rfl, H6.out.1.trans ((below_drewN W6 _).mono H6.out.1.size)⟩
  · go_upto_region 10 with (go_at_call 33; refine HN.out.mono ?_; rintro e W4 ⟨p, rfl, st4⟩)
    have bel4 := st4.bel
    obtain ⟨-, o0, o1⟩ := HC.out W4 (H3.out.1.trans (bel4.mono H3.out.1.size))
    have HSv : Hid (Calls Try.prog 24 #[.pointer (some ⟨p, 0, none⟩), .int .i64 1, .agg #[.int .u64 s3, .slice A3 n3 C3]] W4 fun e W' => ∃ E, e = .returned (.int .u16 E) ∧ (E = 0 → ckE s0 x3 = 0 ∧ CrB W3 s0 p (putZ x1 1 (ckL s0 s3 x3)) W') ∧ (E ≠ 0 → CrB W3 s0 p x1 W')) := cr_save2 (slot := 1) st4 (by decide) H1.out.2.2.1 (H1.out.1.below H3.out.2) H1.out.2.1
    clear st4 bel4 e0 e1 e2 e3
    go_wp2_with (go_at_call 24; refine HSv.out.mono ?_; rintro e W5 ⟨E, rfl, h5⟩; by_cases hE : E = 0)
    rotate_left
    · have st5 := h5.2 hE
      have bel5 := st5.bel
      obtain ⟨O5, hd5, hw5, _, _⟩ := st5
      refine (zones_of hd5 hw5).mono ?_
      rintro e W6 ⟨v6, rfl, z6, b6⟩
      obtain ⟨za, zc, hv6⟩ := z6.slice
      subst hv6
      have hb6 := bel5.trans (b6.mono bel5.size)
      have HSm := sameZones_of za x1.length zc a1 n1 c1 x1 W6 (z6.zsin HW.out.short) (HZ3.out.below hb6)
      have H6 : Hid (Below w.heap.size w W6 ∧ Calls Try.prog 26 #[.slice za x1.length zc, .slice a1 n1 c1] W6 fun e w' => e = .returned (.bool true) ∧ ∃ k, w' = W6.drewN k) := ⟨H3.out.2.trans (hb6.mono H3.out.2.size), HSm⟩
      clear h5 hE bel5 hd5 hw5 z6 b6 hb6 HSm o0 o1 HSv
      go_wp2_with (go_at_call 26; refine H6.out.2.mono ?_; rintro e W7 ⟨rfl, k7, hw7⟩)
      go_ret
      exact ⟨rfl, H6.out.1.trans ((below_drewN W6 _).mono H6.out.1.size)⟩
    · obtain ⟨hck, st5⟩ := h5.1 hE
      have bel5 := st5.bel
      obtain ⟨O5, hd5, hw5, _, _⟩ := st5
      subst hE
      refine (zones_of hd5 hw5).mono ?_
      rintro e W6 ⟨v6, rfl, z6, b6⟩
      obtain ⟨za, zc, hv6⟩ := z6.slice
      subst hv6
      have hb6 := bel5.trans (b6.mono bel5.size)
      have hzs6 : ZsIn W6 za (putZ x1 1 (ckL s0 s3 x3)).length (putZ x1 1 (ckL s0 s3 x3)) := z6.zsin hw5.short
      rw [putZ_len] at hzs6 ⊢
      obtain ⟨m, hm⟩ : ∃ m, m = x1.length := ⟨_, rfl⟩
      rw [← hm] at hzs6 ⊢
      have H6 : Hid (Below w.heap.size w W6 ∧ ZsIn W6 za m (putZ x1 1 (ckL s0 s3 x3)) ∧ ZsIn W6 a1 n1 x1 ∧ m = x1.length) := ⟨H3.out.2.trans (hb6.mono H3.out.2.size), hzs6, HZ3.out.below hb6, hm⟩
      have hm1 : m ≤ 1000 := hzs6.2.1
      clear h5 bel5 hd5 hw5 z6 b6 hb6 hzs6 hm o0 o1 HSv hck
      go_wp2
      go_loopw [13] (fun x wr => ∃ i j : Nat, x = .int .i64 i ∧ i ≤ m ∧ wr = W6.drewN j) (fun x _ => m - (intOf x).toNat)
      case atStart => exact ⟨0, 0, rfl, Nat.zero_le _, rfl⟩
      case round =>
        obtain ⟨i, j, rfl, hi, rfl⟩ := hrel
        rcases Nat.lt_or_ge i m with hlt | hge
        · have hi' : (i : Int) < m := by omega
          have hin : (i : Int) < n1 := by have := H6.out.2.2.1.1; have := H6.out.2.2.2; omega
          have hwi : IntKind.i64.wrap ((i : Int) + 1) = (i : Int) + 1 := by rw [IntKind.wrap_i64]; omega
          obtain ⟨z, hz⟩ : ∃ z, x1[i]? = some z := ⟨x1[i]'(by have := H6.out.2.2.2; omega), by simp⟩
          obtain ⟨ba, oa, rfl, hca⟩ := H6.out.2.2.1.2.2.resolve_left (by omega)
          obtain ⟨bz, oz, rfl, hcz⟩ := H6.out.2.1.2.2.resolve_left (by omega)
          obtain ⟨A8, L8, C8, y0, y1, y2⟩ := hca i z hz
          obtain ⟨V, hV⟩ : ∃ V, V = W6.drewN j := ⟨_, rfl⟩
          have y0' : ∀ t, (V.drewN t).cell? ⟨ba, oa + i * 2, none⟩ = some (.slice A8 L8 C8) := fun t => by rw [hV]; exact y0
          by_cases hik : i = 1
          · obtain ⟨z', hz'⟩ : ∃ z', (putZ x1 1 (ckL s0 s3 x3))[i]? = some z' ∧ z'.2 = z'.1.length := ⟨_, by rw [hik]; exact putZ_at (by have := H6.out.2.2.2; omega), rfl⟩
            obtain ⟨A7, L7, C7, u0, u1, u2⟩ := hcz i z' hz'.1
            have hL7 : z'.2 = (L7 : Int) := by rw [hz'.2, u2.1]
            rw [hL7] at u1
            have u0' : ∀ t, (V.drewN t).cell? ⟨bz, oz + i * 2, none⟩ = some (.slice A7 L7 C7) := fun t => by rw [hV]; exact u0
            have u1' : ∀ t, (V.drewN t).cell? ⟨bz, oz + i * 2 + 1, none⟩ = some (.int .i64 (L7 : Int)) := fun t => by rw [hV]; exact u1
            clear u0 u1 u2 y0 y1 y2 hca hcz hz hz' hL7 y0'
            have hie : ((i : Int) != 1) = false := by simp [hik]
            have HI : Hid (i = 1) := hik
            have HV : Hid (V = W6.drewN j) := hV
            rw [← hV]
            clear hik hV
            go_wp2
            go_quiet (fail)
            go_wp2
            go_roundw
            case rel => exact ⟨i + 1, j + nq, by simp, by omega, by rw [HV.out, World.drewN_drewN]⟩
            case measure => simp [intOf]; omega
          · obtain ⟨A7, L7, C7, u0, u1, u2⟩ := hcz i _ (putZ_other (ls := ckL s0 s3 x3) (fun h => hik h.symm) hz)
            have hL7 : (z.1.length : Int) = (L7 : Int) := by rw [u2.1]
            rw [hL7] at u1
            have u0' : ∀ t, (V.drewN t).cell? ⟨bz, oz + i * 2, none⟩ = some (.slice A7 L7 C7) := fun t => by rw [hV]; exact u0
            have u1' : ∀ t, (V.drewN t).cell? ⟨bz, oz + i * 2 + 1, none⟩ = some (.int .i64 (L7 : Int)) := fun t => by rw [hV]; exact u1
            have HSb : Hid (∀ t, Calls Try.prog 12 #[.slice A7 L7 C7, .slice A8 L8 C8] (V.drewN t) fun e w' => e = .returned (.bool true) ∧ ∃ k, w' = V.drewN k) := fun t => quiet_of (sameBlocks_of A7 L7 C7 A8 L8 C8 z.1 (V.drewN t) ((by rw [hV]; exact u2.below (below_drewN W6 j) : BsIn V A7 L7 z.1).below (below_drewN _ _)) ((by rw [hV]; exact y2.below (below_drewN W6 j) : BsIn V A8 L8 z.1).below (below_drewN _ _)))
            clear u0 u1 u2 y0 y1 y2 hca hcz hz hL7
            have hie : ((i : Int) != 1) = true := by simp; omega
            have hie2 : ¬ (i : Int) = 1 := by omega
            have HV : Hid (V = W6.drewN j) := hV
            rw [← hV]
            clear hik hV
            go_wp2
            go_quiet (exact HSb.out _)
            go_wp2
            go_roundw
            case rel => exact ⟨i + 1, j + nq, by simp, by omega, by rw [HV.out, World.drewN_drewN]⟩
            case measure => simp [intOf]; omega
        · have hi' : ¬ (i : Int) < m := by omega
          go_wp2
          go_ret
          exact ⟨rfl, H6.out.1.trans ((below_drewN W6 _).mono H6.out.1.size)⟩

set_option maxRecDepth 100000 in
theorem lifted (os : Os) (started : os.Started) (H : Type) (enc : TypeId × Value → H) :
    ReturnsInHanded {} Try.checked os 8 .any (Rows.ckptOtherSpec.pre6 enc Try.prog Try.f8 Rows.ckptOtherRow.domain false) (Rows.ckptOtherSpec.post enc Try.prog Try.f8 false true false false) := by
  refine returnsInHanded_of_change (C := Try.checked) own started (by kernel_rfl) Try.func8
    (ChangeSpec.witness6 (enc := enc) (C := Try.checked) false ⟨#[], #[.agg #[.int .i64 0, .int .i64 0, .int .i64 0, .int .i64 0], .slice none 0 0, .bool false, .agg #[.int .u64 0, .slice none 0 0]], []⟩ 8 (by kernel_rfl) (by kernel_rfl) (by kernel_rfl) (by kernel_rfl)) ?_
  intro W base args ds gs before hval0 hW hcnd _
  have hval : ∀ (j : Nat) t v, Try.f8.params[j]? = some t → args[j]? = some v → Value.okWide Try.prog W .any base t v := hval0
  have hW' := hW
  obtain ⟨p, q, hA0, hV, rfl, hfz, hnd⟩ := hW
  have hA : DataW.TrodAll enc Try.prog W 0 (fun _ => true) true Try.f8.params.toList args.toList ds p := hA0
  rw [Try.params8] at hA hval
  obtain ⟨v0, vs0, d0, ds0, p0, q0, hargs, rfl, rfl, h0, r0⟩ := trodAll_cons hA
  obtain ⟨v1, vs1, d1, ds1, p1, q1, rfl, rfl, rfl, h1, r1⟩ := trodAll_cons r0
  obtain ⟨v2, vs2, d2, ds2, p2, q2, rfl, rfl, rfl, h2, r2⟩ := trodAll_cons r1
  obtain ⟨v3, vs3, d3, ds3, p3, q3, rfl, rfl, rfl, h3, r3⟩ := trodAll_cons r2
  obtain ⟨rfl, rfl, rfl⟩ := trodAll_nil r3
  obtain rfl : args = #[v0, v1, v2, v3] := by cases args; simp_all
  obtain ⟨rfl, rfl⟩ := trodVars_none hV
  have k0 := h0
  have lt0 : ∀ x ∈ p0, x.block < W.heap.size := by obtain ⟨m, hm⟩ := k0; exact DataW.trod_lt m _ _ _ hm
  obtain ⟨s0, rfl, w0⟩ := open_shape (hval 0 23 v0 rfl rfl) h0
  obtain ⟨a1, n1, c1, rfl⟩ := okWide_slice Try.underlying47 (hval 1 47 v1 rfl rfl)
  have k1 := h1
  have lt1 : ∀ x ∈ p1, x.block < W.heap.size := by obtain ⟨m, hm⟩ := k1; exact DataW.trod_lt m _ _ _ hm
  obtain ⟨x1, w1⟩ := open_zones h1
  obtain ⟨a2, rfl, rfl, rfl⟩ := open_bool Try.underlying4 (hval 2 4 v2 rfl rfl) h2
  have k3 := h3
  have lt3 : ∀ x ∈ p3, x.block < W.heap.size := by obtain ⟨m, hm⟩ := k3; exact DataW.trod_lt m _ _ _ hm
  obtain ⟨s3, A3, n3, C3, x3, rfl, w3⟩ := open_state (hval 3 27 v3 rfl rfl) h3
  clear hA0 hval0
  refine (walk s0 a1 n1 c1 x1 a2 s3 A3 n3 C3 x3 W w0 w1 w3).mono fun e W' ⟨he, bel⟩ => ?_
  subst he
  exact ⟨_, rfl, _, _, _, [], _, [], hW', trodAll_mk1 (shut_bool Try.underlying4 _), (trodAll_cons_mk (Below.trod laidOut (by kernel_rfl) (of_decide_eq_true (by kernel_rfl)) k0 bel lt0) (trodAll_cons_mk (Below.trod laidOut (by kernel_rfl) (of_decide_eq_true (by kernel_rfl)) k1 bel lt1) (trodAll_cons_mk (shut_bool Try.underlying4 _) (trodAll_cons_mk (Below.trod laidOut (by kernel_rfl) (of_decide_eq_true (by kernel_rfl)) k3 bel lt3) trodAll_mk0)))), rfl, bel.frame _, fun h => by cases h⟩

theorem over : Rows.ckptOtherRow.holds Try.pinned (OpenSpec.ofChange Rows.ckptOtherSpec) :=
  OpenClaim.holds_of_wide 8 Try.f8 rfl rfl rfl rfl rfl rfl rfl ⟨rfl, rfl, rfl, rfl, rfl⟩ rfl rfl rfl rfl rfl (by kernel_rfl) Try.func8 (by kernel_rfl)
    (of_decide_eq_true (by kernel_rfl)) (by unfold Func.isWrapper; first | (rw [if_pos (by decide +kernel)]; kernel_rfl) | (rw [if_neg (by decide +kernel)]; exact ⟨rfl, rfl⟩))
    (fun os started H enc _ => lifted os started H enc)

end Go.Proofs.Yteokhkoaieibmaa.ckptOther
namespace Go.Proofs.Yteokhkoaieibmaa
/-- The statement. -/
theorem ckptOther_holds : Rows.CkptOtherSaid := ckptOther.over
#print axioms ckptOther_holds
end Go.Proofs.Yteokhkoaieibmaa
