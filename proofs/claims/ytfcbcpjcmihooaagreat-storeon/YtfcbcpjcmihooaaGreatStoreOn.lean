/- For every shape, what a device holds, number, places, zones that are said to be full and list of calls the statement StoreOn returns true: a store on such a device and the document's store on a device alike answer each call alike and hold the same behind each; where the device can't be, both are nil. -/
import Derived.Test.YtfcbcpjcmihooaaGreatRows
import Derived.Test.YtfcbcpjcmihooaaGreatR6
import Derived.Test.YtfcbcpjcmihooaaGreatP26
import Derived.Test.YtfcbcpjcmihooaaGreatP25
import Derived.BigQuiet
import Derived.Lib.QuietBelow
import Derived.Deep.RegionHeld3
import Derived.WalkKit
import Derived.ProofKit
import Derived.OpenShut
import Derived.ShutString
import Derived.ChangeOld
import Derived.Below
namespace Go.Proofs.YtfcbcpjcmihooaaGreat.storeOn
open Go.ChangeShapes Go.WideShapes Go.ChangeAt Go.RowKit
open Go.ChangeMaps (open_string shut_string)
set_option linter.unusedVariables false

theorem own : ownKnob Tryz.prog.godebug = none := by kernel_rfl
theorem laidOut : laidOutB Tryz.prog = true := by kernel_rfl

set_option maxRecDepth 20000 in
set_option maxHeartbeats 8000000 in
theorem walk (s0 : Sh) (a1 : Option Addr) (n1 c1 : Nat) (x1 : List Zn) (a2 : Int) (a3 : Option Addr) (n3 c3 : Nat) (x3 : List Pl) (a4 : Option Addr) (n4 c4 : Nat) (x4 : List Int) (a5 : Option Addr) (n5 c5 : Nat) (x5 : List Od) (w : World) (w0 : ShF s0) (w1 : ZsRaw w a1 n1 x1 ∧ ZnF x1) (w2 : (Lit.int .u32 a2).wf = true) (w3 : KIn w a3 n3 x3 ∧ n3 ≤ c3 ∧ (a3 = none → n3 = 0 ∧ c3 = 0)) (w4 : NIn .i64 w a4 n4 x4) (w5 : OdsR w a5 n5 x5 ∧ n5 ≤ c5 ∧ (a5 = none → n5 = 0 ∧ c5 = 0) ∧ ∀ o ∈ x5, Fits8 o.k ∧ F64 o.z) :
    Calls Tryz.prog 4 #[.agg (shL s0).toArray, .slice a1 n1 c1, .int .u32 a2, .slice a3 n3 c3, .slice a4 n4 c4, .slice a5 n5 c5] w fun e w' => e = .returned (.bool true) ∧ Below w.heap.size w w' := by
  obtain ⟨hzr, hzf⟩ := w1
  obtain ⟨hpl, hplc, hpln⟩ := w3
  obtain ⟨hpr, hnc, hnil, hof⟩ := w5
  have hq : FitsU a2 := by have := bounds_u32 w2; unfold FitsU; omega
  have hwq : IntKind.u64.wrap a2 = a2 := by have := bounds_u32 w2; rw [IntKind.wrap_u64]; omega
  have hb0 : Below w.heap.size w (w.alloc (.cells #[.int .i64 s0.z, .int .i64 s0.zb, .int .i64 s0.b, .int .i64 s0.r] 23)) := (Below.refl _ _).alloc (Nat.le_refl _) _
  obtain ⟨hv, hHv⟩ : ∃ b, b = @decide (HvO s0 x5) (Classical.propDecidable _) := ⟨_, rfl⟩
  have bs0 : Blk (w.alloc (.cells #[.int .i64 s0.z, .int .i64 s0.zb, .int .i64 s0.b, .int .i64 s0.r] 23)) w.heap.size (shC s0) 23 := Blk.new' rfl rfl
  have HHv : Hid (Calls Tryz.prog 9 #[.agg #[.int .i64 s0.z, .int .i64 s0.zb, .int .i64 s0.b, .int .i64 s0.r], .slice a5 n5 c5] (w.alloc (.cells #[.int .i64 s0.z, .int .i64 s0.zb, .int .i64 s0.b, .int .i64 s0.r] 23)) fun e w' => e = .returned (.int .i64 (trB hv)) ∧ Below w.heap.size w w' ∧ Blk w' w.heap.size (shC s0) 23) := by
    rw [hHv]
    refine (Heavy_of s0 a5 n5 c5 x5 _ (hpr.below hb0)).mono ?_
    rintro e w' ⟨rfl, hb⟩
    exact ⟨rfl, hb0.trans (hb.mono hb0.size), bs0.below hb bs0.lt⟩
  have HZh : Hid (∀ V, Below w.heap.size w V → Calls Tryz.prog 18 #[.slice a1 n1 c1, .int .i64 60] V fun e w' => ∃ y : Bool, e = .returned (.bool y) ∧ w' = V ∧ (y = false → LightZ x1)) := fun V hb => tooHeavy_of a1 n1 c1 x1 V (hzr.below hb)
  have HO : Hid (∀ o ∈ x5, Fits8 o.k ∧ F64 o.z) := hof
  have HH : Hid (hv = @decide (HvO s0 x5) (Classical.propDecidable _) ∧ OdsR w a5 n5 x5 ∧ ShF s0 ∧ ZsRaw w a1 n1 x1 ∧ KIn w a3 n3 x3 ∧ NIn .i64 w a4 n4 x4 ∧ FitsU a2) := ⟨hHv, hpr, w0, hzr, hpl, w4, hq⟩
  have HKn : Hid (∀ V, Below w.heap.size w V → Blk V w.heap.size (shC s0) 23 → Calls Tryz.prog 10 #[] V fun e w' => e = .returned (.bool true) ∧ Below w.heap.size w w' ∧ Blk w' w.heap.size (shC s0) 23) := fun V hb hs => by
    refine (sknown_any V).mono ?_
    rintro e w' ⟨rfl, hb'⟩
    exact ⟨rfl, hb.trans (hb'.mono hb.size), hs.below hb' hs.lt⟩
  have hn5 := hpr.2.1
  have hm3 : n3 ≤ 9223372036854775807 := by have := hpl.2.1; unfold maxLen at this; omega
  have hm4 : n4 ≤ 9223372036854775807 := by have := w4.2.1; unfold maxLen at this; omega
  clear hHv hpr hb0 bs0 w0 hof w2 hq hzr hzf hpl w4
  unfold shL
  cases hv with
  | true =>
    rw [show trB true = 1 from rfl] at HHv
    go_enter Tryz.func4, Tryz.ntmps4
    go_wp2_with (first
      | (go_at_call 9; refine HHv.out.mono ?_; rintro e W1 ⟨rfl, hb1, bs1⟩)
      | (go_at_call 10; refine (HKn.out _ hb1 bs1).mono ?_; rintro e W2 ⟨rfl, hb2, _⟩))
    go_ret
    exact ⟨rfl, hb2⟩
  | false =>
    rw [show trB false = 0 from rfl] at HHv
    have HL : Hid (SmallS s0 ∧ n5 ≤ 40 ∧ (∀ o ∈ x5, o.l.length ≤ 30 ∧ ∀ p ∈ o.l, p.d.length ≤ 200)) := by
      have hn := light_ops (fun h => by have e := HH.out.1; rw [@decide_eq_true _ (Classical.propDecidable _) h] at e; cases e)
      have hlen := HH.out.2.1.1
      exact ⟨hn.1, by rw [← hlen]; exact hn.2.1, hn.2.2⟩
    have HDv : Hid (∀ V, Below w.heap.size w V → LightZ x1 → n3 ≤ 60 → n4 ≤ 20 → Calls Tryz.prog 19 #[.agg #[.int .i64 s0.z, .int .i64 s0.zb, .int .i64 s0.b, .int .i64 s0.r], .slice a1 n1 c1, .int .u64 a2, .slice a3 n3 c3, .slice a4 n4 c4] V fun e w' => (¬ Wf s0 x1 ∧ e = .returned (.tuple #[.pointer none, .pointer none]) ∧ Below w.heap.size w w') ∨ (Wf s0 x1 ∧ ∃ ps rs, e = .returned (.tuple #[.pointer (some ⟨ps, 0, none⟩), .pointer (some ⟨rs, 0, none⟩)]) ∧ Bo w.heap.size w ps rs (onG s0 x1 a2 x3 x4) n3 w')) := fun V hb hl h3 h4 => devices_of s0 x1 a2 x3 x4 a1 a3 a4 n1 c1 n3 c3 n4 c4 w V HH.out.2.2.1.1.1 hb HH.out.2.2.2.2.2.2 (HH.out.2.2.2.1.light hl) HH.out.2.2.2.2.1 HH.out.2.2.2.2.2.1 (by omega) (by omega)
    go_enter Tryz.func4, Tryz.ntmps4
    go_wp2_with (first
      | (go_at_call 9; refine HHv.out.mono ?_; rintro e W1 ⟨rfl, hb1, bs1⟩))
    refine (HZh.out _ hb1).mono ?_
    rintro e W2 ⟨y, rfl, rfl, hy⟩
    cases y with
    | true =>
      clear hy
      go_wp2_with (go_at_call 10; refine (HKn.out _ hb1 bs1).mono ?_; rintro e W3 ⟨rfl, hb3, _⟩)
      go_ret
      exact ⟨rfl, hb3⟩
    | false =>
      have HLz : Hid (LightZ x1) := hy rfl
      clear hy
      by_cases h60 : n3 ≤ 60
      · by_cases h20 : n4 ≤ 20
        · have g60 : (n3 : Int) ≤ 60 := by omega
          have g20 : (n4 : Int) ≤ 20 := by omega
          have d60 : decide ((60 : Int) < (n3 : Int)) = false := decide_eq_false (by omega)
          have d60' : decide (60 < n3) = false := decide_eq_false (by omega)
          have d20 : decide ((20 : Int) < (n4 : Int)) = false := decide_eq_false (by omega)
          have d20' : decide (20 < n4) = false := decide_eq_false (by omega)
          have HDv2 : Hid (∀ V, Below w.heap.size w V → Calls Tryz.prog 19 #[.agg #[.int .i64 s0.z, .int .i64 s0.zb, .int .i64 s0.b, .int .i64 s0.r], .slice a1 n1 c1, .int .u64 a2, .slice a3 n3 c3, .slice a4 n4 c4] V fun e w' => (¬ Wf s0 x1 ∧ e = .returned (.tuple #[.pointer none, .pointer none]) ∧ Below w.heap.size w w') ∨ (Wf s0 x1 ∧ ∃ ps rs, e = .returned (.tuple #[.pointer (some ⟨ps, 0, none⟩), .pointer (some ⟨rs, 0, none⟩)]) ∧ Bo w.heap.size w ps rs (onG s0 x1 a2 x3 x4) n3 w')) := fun V hb => HDv.out V hb HLz.out h60 h20
          have HN60 : Hid (n3 ≤ 60) := h60
          clear h60 h20 HDv HZh HHv
          go_wp2_with (first
            | (go_at_call 10; refine (HKn.out _ hb1 bs1).mono ?_; rintro e W3 ⟨rfl, hb3, bs3⟩; have sh0 : W3.cell? ⟨w.heap.size, 0, none⟩ = some (.int .i64 s0.z) := bs3.cell 0; have sh1 : W3.cell? ⟨w.heap.size, 1, none⟩ = some (.int .i64 s0.zb) := bs3.cell 1; have sh2 : W3.cell? ⟨w.heap.size, 2, none⟩ = some (.int .i64 s0.b) := bs3.cell 2; have sh3 : W3.cell? ⟨w.heap.size, 3, none⟩ = some (.int .i64 s0.r) := bs3.cell 3)
            | (go_at_call 19; refine (HDv2.out _ hb3).mono ?_))
          rintro e W4 (⟨hnw, rfl, hb4⟩ | ⟨hw, ps, rs, rfl, hbo⟩)
          · go_wp2
            go_ret
            exact ⟨rfl, hb4⟩
          · have H4 : Hid (Bo w.heap.size w ps rs (onG s0 x1 a2 x3 x4) n3 W4 ∧ RightS s0) := ⟨hbo, hw.right⟩
            clear hbo hw hb1 hb3 bs1 bs3 sh0 sh1 sh2 sh3
            go_wp2_with fail
            go_loopw [15] (fun x wr => ∃ (i : Nat) (st : St), x = .int .i64 i ∧ i ≤ n5 ∧ Bo w.heap.size w ps rs st (n3 + i * 30) wr ∧ (st.o = 0 ∨ st.o = 1) ∧ st.s = s0) (fun x _ => n5 - (intOf x).toNat)
            case atStart => exact ⟨0, onG s0 x1 a2 x3 x4, rfl, Nat.zero_le _, by simpa using H4.out.1, .inl rfl, rfl⟩
            case round =>
              obtain ⟨i, st, rfl, hi, hbo, hin, hss⟩ := hrel
              have hn40 : n5 ≤ 40 := HL.out.2.1
              have hn60 : n3 ≤ 60 := HN60.out
              rcases Nat.lt_or_ge i n5 with hlt | hge
              · have hi' : (i : Int) < n5 := by omega
                have hwi : IntKind.i64.wrap ((i : Int) + 1) = (i : Int) + 1 := by rw [IntKind.wrap_i64]; omega
                obtain ⟨o, b0, off, ho, rfl, A, N, C, hcl, hpts, hNC, _⟩ := HH.out.2.1.at hlt
                have hol := HL.out.2.2 o (List.mem_of_getElem? ho)
                have hNl : o.l.length = N := hpts.1
                have hN30 : N ≤ 30 := by rw [← hNl]; exact hol.1
                have hptw : PtsIn (fun x => x < w.heap.size) w A N o.l := hpts.pts (by omega) (fun p hp => by have := hol.2 p hp; omega)
                have HCl : Hid (∀ V, Below w.heap.size w V → V.cell? ⟨b0, off + i * 3, none⟩ = some (.int .u8 o.k) ∧ V.cell? ⟨b0, off + i * 3 + 1, none⟩ = some (.slice A N C) ∧ V.cell? ⟨b0, off + i * 3 + 2, none⟩ = some (.int .i64 o.z)) := fun V hb => ⟨(hb.cell (old_block (hcl 0 _ rfl))).trans (hcl 0 _ rfl), (hb.cell (old_block (hcl 1 _ rfl))).trans (hcl 1 _ rfl), (hb.cell (old_block (hcl 2 _ rfl))).trans (hcl 2 _ rfl)⟩
                obtain ⟨u0, u1, u2⟩ := HCl.out wr hbo.bel
                have HDo : Hid (Calls Tryz.prog 13 #[.pointer (some ⟨ps, 0, none⟩), .pointer (some ⟨rs, 0, none⟩), .agg #[.int .u8 o.k, .slice A N C, .int .i64 o.z]] wr fun e w' => e = .returned (.int .i64 1) ∧ Bo w.heap.size w ps rs (doM st o) (n3 + (i + 1) * 30) w') := by
                  refine (Does_of hbo hin (by rw [hss]; exact H4.out.2) o A N C (hptw.out (below_out' (O := fun j => w.heap.size ≤ j) hbo.bel (fun j h _ => h)) (fun x hx => by omega)) (HO.out o (List.mem_of_getElem? ho)).1 (by omega)).mono ?_
                  rintro e w' ⟨rfl, h2⟩
                  exact ⟨rfl, h2.mono (by omega)⟩
                have HI2 : Hid (((doM st o).o = 0 ∨ (doM st o).o = 1) ∧ (doM st o).s = s0) := ⟨do_o hin o, by rw [do_sh]; exact hss⟩
                generalize doM st o = st2 at HDo HI2
                clear hbo hin hss hptw hpts hcl ho hol hNl
                go_wp2_with (first
                  | (go_at_call 13; refine HDo.out.mono ?_; rintro e V1 ⟨rfl, hb1⟩; have HSa := Same_of hb1 (by omega); clear u0 u1 u2 HDo hb1)
                  | (go_at_call 14; refine HSa.mono ?_; rintro e V2 ⟨rfl, hb2⟩; have HB2 : Hid (Bo w.heap.size w ps rs st2 (n3 + (i + 1) * 30) V2) := hb2; clear HSa hb2))
                exact ⟨⟨i + 1, st2, by simp, by omega, HB2.out, HI2.out.1, HI2.out.2⟩, by simp [intOf]; omega⟩
              · have hge' : ¬ (i : Int) < n5 := by omega
                have hb := hbo.bel
                clear hbo hin hss
                go_wp2
                go_ret
                exact ⟨rfl, hb⟩
        · have g20 : ¬ (n4 : Int) ≤ 20 := by omega
          by_cases g60 : (n3 : Int) ≤ 60
          all_goals (
            go_wp2_with (go_at_call 10; refine (HKn.out _ hb1 bs1).mono ?_; rintro e W3 ⟨rfl, hb3, _⟩)
            go_ret
            exact ⟨rfl, hb3⟩)
      · have g60 : ¬ (n3 : Int) ≤ 60 := by omega
        go_wp2_with (go_at_call 10; refine (HKn.out _ hb1 bs1).mono ?_; rintro e W3 ⟨rfl, hb3, _⟩)
        go_ret
        exact ⟨rfl, hb3⟩

set_option maxRecDepth 100000 in
theorem lifted (os : Os) (started : os.Started) (H : Type) (enc : TypeId × Value → H) :
    ReturnsInHanded {} Tryz.checked os 4 .any (Rows.storeOnSpec.pre6 enc Tryz.prog Tryz.f4 Rows.storeOnRow.domain false) (Rows.storeOnSpec.post enc Tryz.prog Tryz.f4 false true false false) := by
  refine returnsInHanded_of_change (C := Tryz.checked) own started (by kernel_rfl) Tryz.func4
    (ChangeSpec.witness6 (enc := enc) (C := Tryz.checked) false ⟨#[], #[.agg #[.int .i64 0, .int .i64 0, .int .i64 0, .int .i64 0], .slice none 0 0, .int .u32 0, .slice none 0 0, .slice none 0 0, .slice none 0 0], []⟩ 8 (by kernel_rfl) (by kernel_rfl) (by kernel_rfl) (by kernel_rfl)) ?_
  intro W base args ds gs before hval0 hW hcnd _
  have hval : ∀ (j : Nat) t v, Tryz.f4.params[j]? = some t → args[j]? = some v → Value.okWide Tryz.prog W .any base t v := hval0
  have hW' := hW
  obtain ⟨p, q, hA0, hV, rfl, hfz, hnd⟩ := hW
  have hA : DataW.TrodAll enc Tryz.prog W 0 (fun _ => true) true Tryz.f4.params.toList args.toList ds p := hA0
  rw [Tryz.params4] at hA hval
  obtain ⟨v0, vs0, d0, ds0, p0, q0, hargs, rfl, rfl, h0, r0⟩ := trodAll_cons hA
  obtain ⟨v1, vs1, d1, ds1, p1, q1, rfl, rfl, rfl, h1, r1⟩ := trodAll_cons r0
  obtain ⟨v2, vs2, d2, ds2, p2, q2, rfl, rfl, rfl, h2, r2⟩ := trodAll_cons r1
  obtain ⟨v3, vs3, d3, ds3, p3, q3, rfl, rfl, rfl, h3, r3⟩ := trodAll_cons r2
  obtain ⟨v4, vs4, d4, ds4, p4, q4, rfl, rfl, rfl, h4, r4⟩ := trodAll_cons r3
  obtain ⟨v5, vs5, d5, ds5, p5, q5, rfl, rfl, rfl, h5, r5⟩ := trodAll_cons r4
  obtain ⟨rfl, rfl, rfl⟩ := trodAll_nil r5
  obtain rfl : args = #[v0, v1, v2, v3, v4, v5] := by cases args; simp_all
  obtain ⟨rfl, rfl⟩ := trodVars_none hV
  have k0 := h0
  have lt0 : ∀ x ∈ p0, x.block < W.heap.size := by obtain ⟨m, hm⟩ := k0; exact DataW.trod_lt m _ _ _ hm
  obtain ⟨s0, rfl, w0⟩ := open_shape (hval 0 23 v0 rfl rfl) h0
  obtain ⟨a1, n1, c1, rfl⟩ := okWide_slice Tryz.underlying45 (hval 1 45 v1 rfl rfl)
  have k1 := h1
  have lt1 : ∀ x ∈ p1, x.block < W.heap.size := by obtain ⟨m, hm⟩ := k1; exact DataW.trod_lt m _ _ _ hm
  obtain ⟨x1, w1⟩ := open_zones h1
  obtain ⟨a2, rfl, rfl, rfl, w2⟩ := open_int Tryz.underlying39 (hval 2 39 v2 rfl rfl) h2
  obtain ⟨a3, n3, c3, rfl⟩ := okWide_slice Tryz.underlying46 (hval 3 46 v3 rfl rfl)
  have k3 := h3
  have lt3 : ∀ x ∈ p3, x.block < W.heap.size := by obtain ⟨m, hm⟩ := k3; exact DataW.trod_lt m _ _ _ hm
  obtain ⟨x3, w3⟩ := open_places h3
  obtain ⟨a4, n4, c4, rfl⟩ := okWide_slice Tryz.underlying47 (hval 4 47 v4 rfl rfl)
  have k4 := h4
  have lt4 : ∀ x ∈ p4, x.block < W.heap.size := by obtain ⟨m, hm⟩ := k4; exact DataW.trod_lt m _ _ _ hm
  obtain ⟨x4, w4⟩ := came_ints h4
  obtain ⟨a5, n5, c5, rfl⟩ := okWide_slice Tryz.underlying24 (hval 5 24 v5 rfl rfl)
  have k5 := h5
  have lt5 : ∀ x ∈ p5, x.block < W.heap.size := by obtain ⟨m, hm⟩ := k5; exact DataW.trod_lt m _ _ _ hm
  obtain ⟨x5, w5⟩ := open_sops h5
  clear hA0 hval0
  refine (walk s0 a1 n1 c1 x1 a2 a3 n3 c3 x3 a4 n4 c4 x4 a5 n5 c5 x5 W w0 w1 w2 w3 w4 w5).mono fun e W' ⟨he, bel⟩ => ?_
  subst he
  exact ⟨_, rfl, _, _, _, [], _, [], hW', trodAll_mk1 (shut_bool Tryz.underlying4 _), (trodAll_cons_mk (Below.trod laidOut (by kernel_rfl) (of_decide_eq_true (by kernel_rfl)) k0 bel lt0) (trodAll_cons_mk (Below.trod laidOut (by kernel_rfl) (of_decide_eq_true (by kernel_rfl)) k1 bel lt1) (trodAll_cons_mk (shut_int Tryz.underlying39 w2) (trodAll_cons_mk (Below.trod laidOut (by kernel_rfl) (of_decide_eq_true (by kernel_rfl)) k3 bel lt3) (trodAll_cons_mk (Below.trod laidOut (by kernel_rfl) (of_decide_eq_true (by kernel_rfl)) k4 bel lt4) (trodAll_cons_mk (Below.trod laidOut (by kernel_rfl) (of_decide_eq_true (by kernel_rfl)) k5 bel lt5) trodAll_mk0)))))), rfl, bel.frame _, fun h => by cases h⟩

theorem over : Rows.storeOnRow.holds Tryz.pinned (OpenSpec.ofChange Rows.storeOnSpec) :=
  OpenClaim.holds_of_wide 4 Tryz.f4 rfl rfl rfl rfl rfl rfl rfl ⟨rfl, rfl, rfl, rfl, rfl⟩ rfl rfl rfl rfl rfl (by kernel_rfl) Tryz.func4 (by kernel_rfl)
    (of_decide_eq_true (by kernel_rfl)) (by unfold Func.isWrapper; first | (rw [if_pos (by decide +kernel)]; kernel_rfl) | (rw [if_neg (by decide +kernel)]; exact ⟨rfl, rfl⟩))
    (fun os started H enc _ => lifted os started H enc)

end Go.Proofs.YtfcbcpjcmihooaaGreat.storeOn
namespace Go.Proofs.YtfcbcpjcmihooaaGreat
/-- The statement. -/
theorem storeOn_holds : Rows.StoreOnSaid := storeOn.over
#print axioms storeOn_holds
end Go.Proofs.YtfcbcpjcmihooaaGreat
