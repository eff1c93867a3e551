/- CkptTurns: checkpoints that are written by turns in two slots: Load tells the last one, as long as numbers grow; for any shape and states. -/
import Derived.Test.YteokhkoaieibmaaRows
import Derived.Test.YteokhkoaieibmaaJ15
import Derived.WalkKit
import Derived.ProofKit
import Derived.OpenShut
import Derived.ShutString
import Derived.ChangeOld
import Derived.Below
namespace Go.Proofs.Yteokhkoaieibmaa.ckptTurns
open Go.ChangeShapes Go.WideShapes Go.ChangeAt Go.RowKit
open Go.ChangeMaps (open_string shut_string)
set_option linter.unusedVariables false

theorem own : ownKnob Try.prog.godebug = none := by kernel_rfl
theorem laidOut : laidOutB Try.prog = true := by kernel_rfl

set_option maxRecDepth 20000 in
set_option maxHeartbeats 16000000 in
theorem walk (s0 : Sh) (a1 : Option Addr) (n1 c1 : Nat) (x1 : List St) (w : World) (w0 : ShF s0) (w1 : StsIn w a1 n1 x1) :
    Calls Try.prog 7 #[.agg (shL s0).toArray, .slice a1 n1 c1] w fun e w' => e = .returned (.bool true) ∧ Below w.heap.size w w' := by
  have hz : -9223372036854775808 ≤ s0.z := w0.1.1
  obtain ⟨q, hq⟩ : ∃ q, q = w.heap.size := ⟨_, rfl⟩
  have hb : Blk (w.alloc (.cells #[.int .i64 s0.z, .int .i64 s0.zb, .int .i64 s0.b, .int .i64 s0.r] 23)) q (shL s0) 23 := Blk.new' hq.symm rfl
  have hbel : Below w.heap.size w (w.alloc (.cells #[.int .i64 s0.z, .int .i64 s0.zb, .int .i64 s0.b, .int .i64 s0.r] 23)) := (Below.refl _ _).alloc (Nat.le_refl _) _
  have H1 : Hid (StsIn w a1 n1 x1 ∧ -9223372036854775808 ≤ s0.z) := ⟨w1, hz⟩
  clear w1 w0 hz
  simp only [shL]
  go_enter Try.func7, Try.ntmps7
  go_upto_region 1 with fail
  rw [← hq]
  generalize hW1 : World.alloc _ _ = W1 at *
  clear hW1 hq
  have cells : ∀ {V : World}, Below W1.heap.size W1 V → V.cell? ⟨q, 0, none⟩ = some (.int .i64 s0.z) ∧ V.cell? ⟨q, 1, none⟩ = some (.int .i64 s0.zb) ∧ V.cell? ⟨q, 2, none⟩ = some (.int .i64 s0.b) ∧ V.cell? ⟨q, 3, none⟩ = some (.int .i64 s0.r) := by
    intro V hV
    have h := hb.below hV hb.lt
    exact ⟨h.cell 0, h.cell 1, h.cell 2, h.cell 3⟩
  obtain ⟨e0, e1, e2, e3⟩ := cells (Below.refl _ _)
  have HC : Hid (∀ {V : World}, Below W1.heap.size W1 V → V.cell? ⟨q, 0, none⟩ = some (.int .i64 s0.z) ∧ V.cell? ⟨q, 1, none⟩ = some (.int .i64 s0.zb) ∧ V.cell? ⟨q, 2, none⟩ = some (.int .i64 s0.b) ∧ V.cell? ⟨q, 3, none⟩ = some (.int .i64 s0.r)) := cells
  have HB : Hid (Below w.heap.size w W1) := hbel
  clear cells hb hbel
  obtain ⟨Sm, hSm⟩ : ∃ Sm, Sm = decide (SmallS s0) := ⟨_, rfl⟩
  have HS : Hid (Calls Try.prog 19 #[.agg (shL s0).toArray] W1 fun e w' => e = .returned (.bool Sm) ∧ Below W1.heap.size W1 w') := by rw [hSm]; exact small_of s0 W1
  clear hSm
  go_upto_region 2 with (go_at_call 19; refine HS.out.mono ?_; rintro e W2 ⟨rfl, b2⟩)
  have H2 : Hid (Below W1.heap.size W1 W2) := b2
  clear HS b2 e0 e1 e2 e3
  have HK : Hid (∀ X : World, Calls Try.prog 11 #[] X fun e w' => e = .returned (.bool true) ∧ Below X.heap.size X w') := kknown_any
  by_cases hgo : Sm = true ∧ n1 ≤ 12
  rotate_left
  · have HE : Hid (Below w.heap.size w W2) := HB.out.trans (H2.out.mono HB.out.size)
    cases Sm
    · go_wp2_with (go_at_call 11; refine (HK.out _).mono ?_; rintro e W3 ⟨rfl, b3⟩)
      go_ret
      exact ⟨rfl, HE.out.trans (b3.mono HE.out.size)⟩
    · have h12 : (12 : Int) < (n1 : Int) := by have : ¬ n1 ≤ 12 := fun h => hgo ⟨rfl, h⟩; omega
      have hgd : decide ((12 : Int) < (n1 : Int)) = true := decide_eq_true h12
      clear hgo
      go_wp2_with (go_at_call 11; refine (HK.out _).mono ?_; rintro e W3 ⟨rfl, b3⟩)
      go_ret
      exact ⟨rfl, HE.out.trans (b3.mono HE.out.size)⟩
  · obtain ⟨rfl, hn12⟩ := hgo
    have h12 : ¬ (12 : Int) < (n1 : Int) := by omega
    have hgd : decide ((12 : Int) < (n1 : Int)) = false := decide_eq_false h12
    go_upto_region 4 with (go_at_call 11; refine (HK.out _).mono ?_; rintro e W3 ⟨rfl, b3⟩)
    have H3 : Hid (Below W1.heap.size W1 W3) := H2.out.trans (b3.mono H2.out.size)
    clear b3
    obtain ⟨e0, e1, e2, e3⟩ := HC.out H3.out
    have HE : Hid (Below w.heap.size w W3) := HB.out.trans (H3.out.mono HB.out.size)
    by_cases hr : RightS s0
    rotate_left
    · have HN : Hid (Calls Try.prog 29 #[.agg (shL s0).toArray] W3 fun e w' => e = .returned (.pointer none) ∧ Below W3.heap.size W3 w') := (new_of s0 W3 H1.out.2).mono (by rintro e w' ⟨b, (⟨_, rfl⟩ | ⟨h, _⟩)⟩; exact ⟨rfl, b⟩; exact absurd h hr)
      clear hr
      go_wp2_with (go_at_call 29; refine HN.out.mono ?_; rintro e W4 ⟨rfl, b4⟩)
      go_ret
      exact ⟨rfl, HE.out.trans (b4.mono HE.out.size)⟩
    · have HN : Hid (Calls Try.prog 29 #[.agg (shL s0).toArray] W3 fun e w' => ∃ p, e = .returned (.pointer (some ⟨p, 0, none⟩)) ∧ TrSt w s0 p 0 0 w') := (new_of s0 W3 H1.out.2).mono (by rintro e w' ⟨b, (⟨h, _⟩ | ⟨h, p, rfl, hd⟩)⟩; exact absurd hr h; exact ⟨p, rfl, tr_start hr HE.out b hd⟩)
      clear hr
      go_wp2_with (go_at_call 29; refine HN.out.mono ?_; rintro e W4 ⟨p, rfl, st4⟩)
      clear HN HK HC
      go_loopw [7, 8, 9] (fun vs vS vi wr => ∃ (k slot : Nat) (S : Int), vi = .int .i64 k ∧ vs = .int .i64 slot ∧ vS = .int .u64 S ∧ k ≤ n1 ∧ slot < 2 ∧ 0 ≤ S ∧ S ≤ 1000 * k ∧ TrSt w s0 p slot S wr) (fun _ _ x _ => n1 - (intOf x).toNat)
      case atStart => exact ⟨0, 0, 0, rfl, rfl, rfl, Nat.zero_le _, by decide, by decide, by decide, st4⟩
      case round =>
        obtain ⟨k, slot, S, rfl, rfl, rfl, hk, hsl, hS0, hS1, st⟩ := hrel
        rcases Nat.lt_or_ge k n1 with hlt | hge
        · have hk' : (k : Int) < n1 := by omega
          have hwk : IntKind.i64.wrap ((k : Int) + 1) = (k : Int) + 1 := by rw [IntKind.wrap_i64]; omega
          have hws : IntKind.i64.wrap (1 - (slot : Int)) = ((1 - slot : Nat) : Int) := by rw [IntKind.wrap_i64]; omega
          obtain ⟨x, hx⟩ : ∃ x, x1[k]? = some x := ⟨x1[k]'(by have := H1.out.1.1; omega), by simp⟩
          obtain ⟨b, off, rfl, hc⟩ := H1.out.1.2.2.resolve_left (by omega)
          obtain ⟨A, N, C, c0, c1, hF, hKI, hNC⟩ := hc k x hx
          have bel := st.bel
          have d0 : wr.cell? ⟨b, off + k * 2, none⟩ = some (.int .u64 x.1) := by rw [bel.cell (old_block c0)]; exact c0
          have d1 : wr.cell? ⟨b, off + k * 2 + 1, none⟩ = some (.slice A N C) := by rw [bel.cell (old_block c1)]; exact c1
          have HX : Hid (TrSt w s0 p slot S wr ∧ KIn wr A N x.2 ∧ N ≤ C ∧ Below w.heap.size w wr ∧ slot < 2 ∧ FitsU x.1) := ⟨st, hKI.below bel, hNC, bel, hsl, hF⟩
          have hm0 : 0 ≤ x.1 % 1000 ∧ x.1 % 1000 < 1000 := by omega
          have HKI : Hid (KIn w A N x.2) := hKI
          clear st bel hx hc c0 c1 hKI hNC
          by_cases hN : 200 < N
          · have hN' : (200 : Int) < (N : Int) := by omega
            clear hF hm0
            go_wp2
            go_ret
            exact ⟨rfl, HX.out.2.2.2.1⟩
          · have hN' : ¬ (200 : Int) < (N : Int) := by omega
            go_upto_region 17 with fail
            obtain ⟨S', hS'⟩ : ∃ S', S' = IntKind.u64.wrap (S + IntKind.u64.wrap (1 + x.1.tmod 1000)) := ⟨_, rfl⟩
            obtain ⟨q5, hq5⟩ : ∃ q5, q5 = wr.heap.size := ⟨_, rfl⟩
            rw [← hS', ← hq5]
            have hSS : S < S' ∧ S' ≤ 1000 * ((k : Int) + 1) ∧ FitsU S' := by
              have hx0 := hF.1
              rw [hS', Int.tmod_eq_emod_of_nonneg hx0, IntKind.wrap_u64, IntKind.wrap_u64]
              unfold FitsU
              omega
            have H5 : Hid (Blk (wr.alloc (.cells #[.int .u64 S', .slice A N C] 27)) q5 [.int .u64 S', .slice A N C] 27 ∧ Below wr.heap.size wr (wr.alloc (.cells #[.int .u64 S', .slice A N C] 27)) ∧ S < S' ∧ S' ≤ 1000 * ((k : Int) + 1) ∧ FitsU S' ∧ q5 = wr.heap.size) := ⟨Blk.new' hq5.symm rfl, (Below.refl _ _).alloc (Nat.le_refl _) _, hSS.1, hSS.2.1, hSS.2.2, hq5⟩
            clear hS' hq5 hSS hF hm0 hS0 hS1 d0 d1
            generalize hW5 : World.alloc wr _ = W5 at H5 ⊢
            clear hW5
            have g0 : W5.cell? ⟨q5, 0, none⟩ = some (.int .u64 S') := H5.out.1.cell 0
            have g1 : W5.cell? ⟨q5, 1, none⟩ = some (.slice A N C) := H5.out.1.cell 1
            have HS : Hid (Calls Try.prog 24 #[.pointer (some ⟨p, 0, none⟩), .int .i64 (slot : Int), .agg #[.int .u64 S', .slice A N C]] W5 fun e V' => ∃ E, e = .returned (.int .u16 E) ∧ (E = 0 → TrDone w s0 p slot S' x.2 V') ∧ Below w.heap.size w V' ∧ Blk V' q5 [.int .u64 S', .slice A N C] 27) := by
              refine (turn_save HX.out.1 H5.out.2.1 HX.out.2.2.2.2.1 H5.out.2.2.1 H5.out.2.2.2.2.1 (HX.out.2.1.below H5.out.2.1) HX.out.2.2.1).mono ?_
              rintro e V' ⟨E, rfl, h1, h2, h3⟩
              exact ⟨E, rfl, h1, h2, h3 _ _ _ H5.out.1 (by rw [H5.out.2.2.2.2.2]; exact Nat.le_refl _)⟩
            go_wp2_with (go_at_call 24; refine HS.out.mono ?_; rintro e W6 ⟨E, rfl, h6⟩; by_cases hE : E = 0)
            rotate_left
            · have H6 : Hid (Below w.heap.size w W6) := h6.2.1
              clear h6
              go_wp2
              go_ret
              exact ⟨rfl, H6.out⟩
            · have H6 : Hid (TrDone w s0 p slot S' x.2 W6 ∧ Below w.heap.size w W6 ∧ Blk W6 q5 [.int .u64 S', .slice A N C] 27) := ⟨h6.1 hE, h6.2.1, h6.2.2⟩
              clear h6 HS g0 g1
              subst hE
              have HL : Hid (Calls Try.prog 22 #[.pointer (some ⟨p, 0, none⟩)] W6 fun e V' => ∃ A N C, e = .returned (.tuple #[.agg #[.int .u64 S', .slice A N C], .int .i64 (slot : Int), .int .u16 0]) ∧ KIn V' A N x.2 ∧ Below W6.heap.size W6 V') := turn_load H6.out.1
              go_upto_region 20 with (go_at_call 22; refine HL.out.mono ?_; rintro e W7 ⟨A7, N7, C7, rfl, k7, b7⟩)
              obtain ⟨q8, hq8⟩ : ∃ q8, q8 = W7.heap.size := ⟨_, rfl⟩
              have H8 : Hid (Blk (W7.alloc (.cells #[.int .u64 S', .slice A7 N7 C7] 27)) q8 [.int .u64 S', .slice A7 N7 C7] 27 ∧ Below W6.heap.size W6 (W7.alloc (.cells #[.int .u64 S', .slice A7 N7 C7] 27)) ∧ KIn (W7.alloc (.cells #[.int .u64 S', .slice A7 N7 C7] 27)) A7 N7 x.2) := ⟨Blk.new' hq8.symm rfl, b7.alloc b7.size _, k7.alloc _⟩
              rw [← hq8]
              clear hq8 b7 k7 HL
              generalize hW8 : World.alloc W7 _ = W8 at H8 ⊢
              clear hW8
              have i0 : W8.cell? ⟨q8, 0, none⟩ = some (.int .u64 S') := H8.out.1.cell 0
              have i1 : W8.cell? ⟨q8, 1, none⟩ = some (.slice A7 N7 C7) := H8.out.1.cell 1
              have hb5 : Blk W8 q5 [.int .u64 S', .slice A N C] 27 := H6.out.2.2.below H8.out.2.1 H6.out.2.2.lt
              have g0 : W8.cell? ⟨q5, 0, none⟩ = some (.int .u64 S') := hb5.cell 0
              have g1 : W8.cell? ⟨q5, 1, none⟩ = some (.slice A N C) := hb5.cell 1
              have bw8 : Below w.heap.size w W8 := H6.out.2.1.trans (H8.out.2.1.mono H6.out.2.1.size)
              have HM : Hid (Calls Try.prog 18 #[.agg #[.int .u64 S', .slice A7 N7 C7], .agg #[.int .u64 S', .slice A N C]] W8 fun e w' => e = .returned (.bool true) ∧ Below W8.heap.size W8 w') := dkSame_of S' A7 N7 C7 A N C x.2 W8 H8.out.2.2 (HKI.out.below bw8)
              clear hb5 bw8
              go_wp2_with (go_at_call 18; refine HM.out.mono ?_; rintro e W9 ⟨rfl, b9⟩)
              go_roundw
              case rel => exact ⟨k + 1, 1 - slot, S', by simp, rfl, rfl, by omega, by omega, by have := H5.out.2.2.2.2.1.1; omega, by have := H5.out.2.2.2.1; simpa using this, turn_next H6.out.1 HX.out.2.2.2.2.1 (H8.out.2.1.trans (b9.mono H8.out.2.1.size))⟩
              case measure => simp [intOf]; omega
        · have hk' : ¬ (k : Int) < n1 := by omega
          have HX : Hid (TrSt w s0 p slot S wr) := st
          clear st
          go_wp2
          go_ret
          exact ⟨rfl, HX.out.bel⟩

set_option maxRecDepth 100000 in
theorem lifted (os : Os) (started : os.Started) (H : Type) (enc : TypeId × Value → H) :
    ReturnsInHanded {} Try.checked os 7 .any (Rows.ckptTurnsSpec.pre6 enc Try.prog Try.f7 Rows.ckptTurnsRow.domain false) (Rows.ckptTurnsSpec.post enc Try.prog Try.f7 false true false false) := by
  refine returnsInHanded_of_change (C := Try.checked) own started (by kernel_rfl) Try.func7
    (ChangeSpec.witness6 (enc := enc) (C := Try.checked) false ⟨#[], #[.agg #[.int .i64 0, .int .i64 0, .int .i64 0, .int .i64 0], .slice none 0 0], []⟩ 8 (by kernel_rfl) (by kernel_rfl) (by kernel_rfl) (by kernel_rfl)) ?_
  intro W base args ds gs before hval0 hW hcnd _
  have hval : ∀ (j : Nat) t v, Try.f7.params[j]? = some t → args[j]? = some v → Value.okWide Try.prog W .any base t v := hval0
  have hW' := hW
  obtain ⟨p, q, hA0, hV, rfl, hfz, hnd⟩ := hW
  have hA : DataW.TrodAll enc Try.prog W 0 (fun _ => true) true Try.f7.params.toList args.toList ds p := hA0
  rw [Try.params7] at hA hval
  obtain ⟨v0, vs0, d0, ds0, p0, q0, hargs, rfl, rfl, h0, r0⟩ := trodAll_cons hA
  obtain ⟨v1, vs1, d1, ds1, p1, q1, rfl, rfl, rfl, h1, r1⟩ := trodAll_cons r0
  obtain ⟨rfl, rfl, rfl⟩ := trodAll_nil r1
  obtain rfl : args = #[v0, v1] := by cases args; simp_all
  obtain ⟨rfl, rfl⟩ := trodVars_none hV
  have k0 := h0
  have lt0 : ∀ x ∈ p0, x.block < W.heap.size := by obtain ⟨m, hm⟩ := k0; exact DataW.trod_lt m _ _ _ hm
  obtain ⟨s0, rfl, w0⟩ := open_shape (hval 0 23 v0 rfl rfl) h0
  obtain ⟨a1, n1, c1, rfl⟩ := okWide_slice Try.underlying72 (hval 1 72 v1 rfl rfl)
  have k1 := h1
  have lt1 : ∀ x ∈ p1, x.block < W.heap.size := by obtain ⟨m, hm⟩ := k1; exact DataW.trod_lt m _ _ _ hm
  obtain ⟨x1, w1⟩ := open_states h1
  clear hA0 hval0
  refine (walk s0 a1 n1 c1 x1 W w0 w1).mono fun e W' ⟨he, bel⟩ => ?_
  subst he
  exact ⟨_, rfl, _, _, _, [], _, [], hW', trodAll_mk1 (shut_bool Try.underlying4 _), (trodAll_cons_mk (Below.trod laidOut (by kernel_rfl) (of_decide_eq_true (by kernel_rfl)) k0 bel lt0) (trodAll_cons_mk (Below.trod laidOut (by kernel_rfl) (of_decide_eq_true (by kernel_rfl)) k1 bel lt1) trodAll_mk0)), rfl, bel.frame _, fun h => by cases h⟩

theorem over : Rows.ckptTurnsRow.holds Try.pinned (OpenSpec.ofChange Rows.ckptTurnsSpec) :=
  OpenClaim.holds_of_wide 7 Try.f7 rfl rfl rfl rfl rfl rfl rfl ⟨rfl, rfl, rfl, rfl, rfl⟩ rfl rfl rfl rfl rfl (by kernel_rfl) Try.func7 (by kernel_rfl)
    (of_decide_eq_true (by kernel_rfl)) (by unfold Func.isWrapper; first | (rw [if_pos (by decide +kernel)]; kernel_rfl) | (rw [if_neg (by decide +kernel)]; exact ⟨rfl, rfl⟩))
    (fun os started H enc _ => lifted os started H enc)

end Go.Proofs.Yteokhkoaieibmaa.ckptTurns
namespace Go.Proofs.Yteokhkoaieibmaa
/-- The statement. -/
theorem ckptTurns_holds : Rows.CkptTurnsSaid := ckptTurns.over
#print axioms ckptTurns_holds
end Go.Proofs.Yteokhkoaieibmaa
