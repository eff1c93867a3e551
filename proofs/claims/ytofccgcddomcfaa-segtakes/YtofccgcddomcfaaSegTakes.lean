/- Zones are opened from the lowest free one on, till none is left; then none is. -/
import Derived.Test.YtofccgcddomcfaaRows
import Derived.Test.YtofccgcddomcfaaSgTk
import Derived.WalkKit
import Derived.ProofKit
import Derived.OpenShut
import Derived.ShutString
import Derived.ChangeOld
import Derived.Below
namespace Go.Proofs.Ytofccgcddomcfaa.segTakes
open Go.ChangeShapes Go.WideShapes Go.ChangeAt Go.RowKit
open Go.ChangeMaps (open_string shut_string)
set_option linter.unusedVariables false

theorem own : ownKnob Try.prog.godebug = none := by kernel_rfl
theorem laidOut : laidOutB Try.prog = true := by kernel_rfl

theorem walk (s0 : Sh) (a1 : Option Addr) (n1 c1 : Nat) (x1 : List Int) (w : World) (w0 : ShF s0) (w1 : NIn .i64 w a1 n1 x1) :
    Calls Try.prog 6 #[.agg (shL s0).toArray, .slice a1 n1 c1] w fun e w' => e = .returned (.bool true) ∧ Below w.heap.size w w' := by
  obtain ⟨hz0, hz1⟩ := w0.1
  obtain ⟨q, hq⟩ : ∃ q, q = w.heap.size := ⟨_, rfl⟩
  have hb : Blk (w.alloc (.cells #[.int .i64 s0.z, .int .i64 s0.zb, .int .i64 s0.b, .int .i64 s0.r] 23)) q (shL s0) 23 := Blk.new' hq.symm rfl
  have hbel : Below w.heap.size w (w.alloc (.cells #[.int .i64 s0.z, .int .i64 s0.zb, .int .i64 s0.b, .int .i64 s0.r] 23)) := (Below.refl _ _).alloc (Nat.le_refl _) _
  simp only [shL]
  go_enter Try.func6, Try.ntmps6
  go_upto_region 1 with fail
  rw [← hq]
  generalize hW1 : World.alloc _ _ = W1 at *
  clear hW1 hq
  have cells : ∀ {V : World}, Below W1.heap.size W1 V → V.cell? ⟨q, 0, none⟩ = some (.int .i64 s0.z) ∧ V.cell? ⟨q, 1, none⟩ = some (.int .i64 s0.zb) ∧ V.cell? ⟨q, 2, none⟩ = some (.int .i64 s0.b) ∧ V.cell? ⟨q, 3, none⟩ = some (.int .i64 s0.r) := by
    intro V hV
    have h := (below_out Non hV).blk hb id
    exact ⟨h.cell 0, h.cell 1, h.cell 2, h.cell 3⟩
  obtain ⟨e0, e1, e2, e3⟩ := cells (Below.refl _ _)
  have HC : Hid (∀ {V : World}, Below W1.heap.size W1 V → V.cell? ⟨q, 0, none⟩ = some (.int .i64 s0.z) ∧ V.cell? ⟨q, 1, none⟩ = some (.int .i64 s0.zb) ∧ V.cell? ⟨q, 2, none⟩ = some (.int .i64 s0.b) ∧ V.cell? ⟨q, 3, none⟩ = some (.int .i64 s0.r)) := cells
  have HB : Hid (Below w.heap.size w W1 ∧ F64 s0.z) := ⟨hbel, hz0, hz1⟩
  have out : ∀ {V : World}, Below W1.heap.size W1 V → Below w.heap.size w V := fun h => hbel.trans (h.mono hbel.size)
  have HO : Hid (∀ {V : World}, Below W1.heap.size W1 V → Below w.heap.size w V) := out
  clear cells out hb hbel hz0 hz1 w0
  have hx : ∀ {V : World}, Below w.heap.size w V → NIn .i64 V a1 n1 x1 := fun h => w1.below h
  have HXI : Hid (∀ {V : World}, Below w.heap.size w V → NIn .i64 V a1 n1 x1) := hx
  have hln : Hid (x1.length = n1) := w1.1
  clear hx w1
  by_cases h3 : 300 < s0.z
  · go_wp2_with (go_at_call 7; refine (gknown_any _).mono ?_; rintro e w2 ⟨rfl, hb2⟩)
    go_ret
    exact ⟨rfl, HO.out hb2⟩
  have h3' : s0.z ≤ 300 := by omega
  clear h3
  by_cases h4 : (300 : Int) < n1
  · go_wp2_with (go_at_call 7; refine (gknown_any _).mono ?_; rintro e w2 ⟨rfl, hb2⟩)
    go_ret
    exact ⟨rfl, HO.out hb2⟩
  have h4' : (n1 : Int) ≤ 300 := by omega
  clear h4
  go_wp2_with fail
  refine (gknown_any _).mono ?_
  rintro e w2 ⟨rfl, hb2⟩
  clear e0 e1 e2 e3
  obtain ⟨e0, e1, e2, e3⟩ := HC.out hb2
  have HN := gNew_of s0 w2 HB.out.2.1
  simp only [shL] at HN
  go_wp2_with fail
  refine HN.mono ?_
  clear HN
  rintro e w3 (⟨hno, rfl, hb3⟩ | ⟨hyes, p, g, rfl, hs3, hp3, hg3, hb3⟩)
  · go_wp2
    go_ret
    exact ⟨rfl, HO.out (hb2.trans (hb3.mono hb2.size))⟩
  obtain ⟨Z, hZ⟩ : ∃ Z : Nat, s0.z = Z := ⟨s0.z.toNat, by have := hyes.1; omega⟩
  have hZ6 : 6 ≤ Z ∧ Z ≤ 256 := by have := hyes.1; have := hyes.2.1; omega
  have hZt : s0.z.toNat = Z := by omega
  rw [hZt] at hs3
  have hB3 : Below W1.heap.size W1 w3 := hb2.trans (hb3.mono hb2.size)
  have hgB : W1.heap.size ≤ g := by have := hb2.size; omega
  have HG : Hid (W1.heap.size ≤ g ∧ RightS s0 ∧ 6 ≤ Z ∧ Z ≤ 256 ∧ n1 ≤ 300 ∧ s0.z = Z) := ⟨hgB, hyes, hZ6.1, hZ6.2, by omega, hZ⟩
  have nxt : ∀ {V V' : World}, Below W1.heap.size W1 V → Out (fun j => j = g) V V' → Below W1.heap.size W1 V' := fun h ho => h.trans (ho.below h.size (fun j e => by rw [e]; exact HG.out.1))
  have HX : Hid (∀ {V V' : World}, Below W1.heap.size W1 V → Out (fun j => j = g) V V' → Below W1.heap.size W1 V') := nxt
  have HS3 : Hid (SegP w3 p g s0.r (newZ Z) ∧ Below W1.heap.size W1 w3) := ⟨hs3, hB3⟩
  clear e0 e1 e2 e3 hb3 hb2 hyes hp3 hg3 hgB hZt nxt hZ h3' h4' hZ6 hs3 hB3
  go_wp2_with fail
  go_loopw [6] (fun i wr => ∃ (k : Nat) (L : List Int), i = .int .i64 k ∧ k ≤ n1 ∧ SegP wr p g s0.r L ∧ Gone Z L ∧ Below W1.heap.size W1 wr) (fun i wr => n1 - (intOf i).toNat)
  case atStart => exact ⟨0, _, rfl, Nat.zero_le _, HS3.out.1, gone_new (by have := HG.out.2.2.1; omega), HS3.out.2⟩
  case round =>
    obtain ⟨k, L, rfl, hk, hsk, hgk, hBk⟩ := hrel
    have HI : Hid (SegP wr p g s0.r L ∧ Gone Z L ∧ Below W1.heap.size W1 wr ∧ k ≤ n1) := ⟨hsk, hgk, hBk, hk⟩
    rcases Nat.lt_or_ge k n1 with hlt | hge
    · have hni := (HXI.out (HO.out hBk)).2.2.2
      obtain ⟨b, off, rfl, hc⟩ := hni.resolve_left (by omega)
      have hck := hc k hlt
      generalize x1.getD k 0 = y at hck
      have HT := gFound_of p g s0.r L y wr hsk
      have hw : IntKind.i64.wrap ((k : Int) + 1) = (k : Int) + 1 := by have := HG.out.2.2.2.2.1; rw [IntKind.wrap_i64]; omega
      have HK : Hid (k < n1) := hlt
      clear hsk hgk hBk hk hni hc
      go_wp2_with fail
      refine HT.mono ?_
      clear HT
      rintro e w4 ⟨rfl, hs4, ho4⟩
      have HJ : Hid (SegP w4 p g s0.r (turnZ L y 1 3) ∧ Gone Z (turnZ L y 1 3) ∧ Below W1.heap.size W1 w4) := ⟨hs4, gone_turn HI.out.2.1, HX.out HI.out.2.2.1 ho4⟩
      clear hs4 ho4
      generalize decide (stZ L y = 1) = D
      go_wp2
      go_roundw
      case rel => exact ⟨k + 1, _, by simp, by have := HK.out; omega, HJ.out.1, HJ.out.2.1, HJ.out.2.2⟩
      case measure => have := HK.out; simp [intOf]; omega
    · have hge' : ¬ (k : Int) < n1 := by omega
      have HT := gList_of p g s0.r L 1 wr hsk
      clear hsk hgk hBk hk hge
      go_wp2_with fail
      refine HT.mono ?_
      clear HT
      rintro e w4 ⟨A, c, rfl, _, hb4⟩
      have HS4 : Hid (SegP w4 p g s0.r L ∧ Below W1.heap.size W1 w4) := ⟨HI.out.1.under hb4, HI.out.2.2.1.trans (hb4.mono HI.out.2.2.1.size)⟩
      obtain ⟨m, hm⟩ : ∃ m, m = (listZ L 1).length := ⟨_, rfl⟩
      rw [← hm]
      have HM : Hid (m = cntZ L 1 ∧ m ≤ Z) := ⟨hm, by have := listTo_length L 1 L.length; rw [hm]; unfold listZ; have := HI.out.2.1.1; omega⟩
      clear hm hb4
      go_wp2_with fail
      go_loopw [8, 9] (fun l i wr => ∃ (j : Nat) (M : List Int) (t : Nat), l = .int .i64 t ∧ i = .int .i64 j ∧ j ≤ m ∧ SegP wr p g s0.r M ∧ Taken Z m j t M ∧ Below W1.heap.size W1 wr) (fun _ i wr => m - (intOf i).toNat)
      case atStart => exact ⟨0, L, 1, rfl, rfl, Nat.zero_le _, HS4.out.1, taken_start HI.out.2.1 HM.out.1, HS4.out.2⟩
      case round =>
        obtain ⟨j, M, t, rfl, rfl, hj, hsj, htj, hBj⟩ := hrel
        rename World => wq
        have HJ : Hid (SegP wq p g s0.r M ∧ Taken Z m j t M ∧ Below W1.heap.size W1 wq) := ⟨hsj, htj, hBj⟩
        rcases Nat.lt_or_ge j m with hlt | hge
        · obtain ⟨t1, t2, t3⟩ := taken_step htj hlt
          have HT := gTake_of p g s0.r M wq hsj
          have hw : IntKind.i64.wrap ((j : Int) + 1) = (j : Int) + 1 := by have := HM.out.2; have := HG.out.2.2.2.1; rw [IntKind.wrap_i64]; omega
          have HK : Hid (j < m ∧ Taken Z m (j + 1) (firstN M 1) (takeZ M)) := ⟨hlt, t3⟩
          have hnl : ¬ ((firstN M 1 : Nat) : Int) ≤ (t : Int) := by omega
          have ei : takeI M = firstN M 1 := by unfold takeI; rw [if_pos t1]
          have eb : takeB M = true := by unfold takeB; rw [decide_eq_true t1]
          generalize hF : firstN M 1 = F at HK hnl ei
          clear hsj htj hBj hj t1 t2 t3 hF
          go_wp2_with fail
          refine HT.mono ?_
          clear HT
          rintro e w5 ⟨rfl, hs5, ho5⟩
          rw [ei, eb]
          have HL : Hid (SegP w5 p g s0.r (takeZ M) ∧ Below W1.heap.size W1 w5) := ⟨hs5, HX.out HJ.out.2.2 ho5⟩
          clear hs5 ho5 ei eb
          go_wp2
          go_roundw
          case rel => exact ⟨j + 1, takeZ M, F, rfl, by simp, by have := HK.out.1; omega, HL.out.1, HK.out.2, HL.out.2⟩
          case measure => have := HK.out.1; simp [intOf]; omega
        · obtain rfl : j = m := by omega
          obtain ⟨u1, u2, u3⟩ := taken_end htj
          have HT := gTake_of p g s0.r M wq hsj
          have hge' : ¬ (j : Int) < (j : Int) := by omega
          have ei : takeI M = 0 := by unfold takeI; rw [if_neg u1]
          have eb : takeB M = false := by unfold takeB; rw [decide_eq_false u1]
          have ez : takeZ M = M := by unfold takeZ; rw [if_neg u1]
          have HU : Hid ((listZ M 2).length = j ∧ lowB M s0.r = true) := ⟨u2, by unfold lowB; rw [u3]; refine decide_eq_true ?_; have := HG.out.2.1.2.2.2.2.2.1; omega⟩
          clear hsj htj hBj hj u1 u2 u3 hge
          go_wp2_with fail
          refine HT.mono ?_
          clear HT
          rintro e w5 ⟨rfl, hs5, ho5⟩
          rw [ei, eb]
          rw [ez] at hs5
          have hB5 := HX.out HJ.out.2.2 ho5
          have HT := gList_of p g s0.r M 2 w5 hs5
          have HL : Hid (SegP w5 p g s0.r M ∧ Below W1.heap.size W1 w5) := ⟨hs5, hB5⟩
          clear hs5 ho5 ei eb ez hB5
          go_wp2_with fail
          refine HT.mono ?_
          clear HT
          rintro e w6 ⟨A6, c6, rfl, _, hb6⟩
          rw [HU.out.1]
          have HT := gLow_of p g s0.r M w6 (HL.out.1.under hb6)
          rw [HU.out.2] at HT
          have HE : Hid (Below W1.heap.size W1 w6) := HL.out.2.trans (hb6.mono HL.out.2.size)
          clear hb6
          go_wp2_with fail
          refine HT.mono ?_
          clear HT
          rintro e w7 ⟨rfl, hb7⟩
          have HE2 : Hid (Below W1.heap.size W1 w7) := HE.out.trans (hb7.mono HE.out.size)
          clear hb7
          go_wp2
          go_ret
          exact ⟨rfl, HO.out HE2.out⟩

set_option maxRecDepth 100000 in
theorem lifted (os : Os) (started : os.Started) (H : Type) (enc : TypeId × Value → H) :
    ReturnsInHanded {} Try.checked os 6 .any (Rows.segTakesSpec.pre6 enc Try.prog Try.f6 Rows.segTakesRow.domain false) (Rows.segTakesSpec.post enc Try.prog Try.f6 false true false false) := by
  refine returnsInHanded_of_change (C := Try.checked) own started (by kernel_rfl) Try.func6
    (ChangeSpec.witness6 (enc := enc) (C := Try.checked) false ⟨#[], #[.agg #[.int .i64 0, .int .i64 0, .int .i64 0, .int .i64 0], .slice none 0 0], []⟩ 8 (by kernel_rfl) (by kernel_rfl) (by kernel_rfl) (by kernel_rfl)) ?_
  intro W base args ds gs before hval0 hW hcnd _
  have hval : ∀ (j : Nat) t v, Try.f6.params[j]? = some t → args[j]? = some v → Value.okWide Try.prog W .any base t v := hval0
  have hW' := hW
  obtain ⟨p, q, hA0, hV, rfl, hfz, hnd⟩ := hW
  have hA : DataW.TrodAll enc Try.prog W 0 (fun _ => true) true Try.f6.params.toList args.toList ds p := hA0
  rw [Try.params6] at hA hval
  obtain ⟨v0, vs0, d0, ds0, p0, q0, hargs, rfl, rfl, h0, r0⟩ := trodAll_cons hA
  obtain ⟨v1, vs1, d1, ds1, p1, q1, rfl, rfl, rfl, h1, r1⟩ := trodAll_cons r0
  obtain ⟨rfl, rfl, rfl⟩ := trodAll_nil r1
  obtain rfl : args = #[v0, v1] := by cases args; simp_all
  obtain ⟨rfl, rfl⟩ := trodVars_none hV
  have k0 := h0
  have lt0 : ∀ x ∈ p0, x.block < W.heap.size := by obtain ⟨m, hm⟩ := k0; exact DataW.trod_lt m _ _ _ hm
  obtain ⟨s0, rfl, w0⟩ := open_shape (hval 0 23 v0 rfl rfl) h0
  obtain ⟨a1, n1, c1, rfl⟩ := okWide_slice Try.underlying37 (hval 1 37 v1 rfl rfl)
  have k1 := h1
  have lt1 : ∀ x ∈ p1, x.block < W.heap.size := by obtain ⟨m, hm⟩ := k1; exact DataW.trod_lt m _ _ _ hm
  obtain ⟨x1, w1⟩ := came_ints h1
  clear hA0 hval0
  refine (walk s0 a1 n1 c1 x1 W w0 w1).mono fun e W' ⟨he, bel⟩ => ?_
  subst he
  exact ⟨_, rfl, _, _, _, [], _, [], hW', trodAll_mk1 (shut_bool Try.underlying4 _), (trodAll_cons_mk (Below.trod laidOut (by kernel_rfl) (of_decide_eq_true (by kernel_rfl)) k0 bel lt0) (trodAll_cons_mk (Below.trod laidOut (by kernel_rfl) (of_decide_eq_true (by kernel_rfl)) k1 bel lt1) trodAll_mk0)), rfl, bel.frame _, fun h => by cases h⟩

theorem over : Rows.segTakesRow.holds Try.pinned (OpenSpec.ofChange Rows.segTakesSpec) :=
  OpenClaim.holds_of_wide 6 Try.f6 rfl rfl rfl rfl rfl rfl rfl ⟨rfl, rfl, rfl, rfl, rfl⟩ rfl rfl rfl rfl rfl (by kernel_rfl) Try.func6 (by kernel_rfl)
    (of_decide_eq_true (by kernel_rfl)) (by unfold Func.isWrapper; first | (rw [if_pos (by decide +kernel)]; kernel_rfl) | (rw [if_neg (by decide +kernel)]; exact ⟨rfl, rfl⟩))
    (fun os started H enc _ => lifted os started H enc)

end Go.Proofs.Ytofccgcddomcfaa.segTakes
namespace Go.Proofs.Ytofccgcddomcfaa
/-- The statement. -/
theorem segTakes_holds : Rows.SegTakesSaid := segTakes.over
#print axioms segTakes_holds
end Go.Proofs.Ytofccgcddomcfaa
