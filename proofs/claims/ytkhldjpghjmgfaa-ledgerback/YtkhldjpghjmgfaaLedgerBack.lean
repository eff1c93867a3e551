/- what was taken and given back leaves all as it was; what is refused, too. -/
import Derived.Test.YtkhldjpghjmgfaaRows
import Derived.Test.YtkhldjpghjmgfaaLgKn
import Derived.Test.YtkhldjpghjmgfaaLgOpen
import Derived.Test.YtkhldjpghjmgfaaLgTe
import Derived.Test.YtkhldjpghjmgfaaLgBk
import Derived.WalkKit
import Derived.ProofKit
import Derived.OpenShut
import Derived.ShutString
import Derived.ChangeOld
import Derived.Below
namespace Go.Proofs.Ytkhldjpghjmgfaa.ledgerBack
open Go.ChangeShapes Go.WideShapes Go.ChangeAt Go.RowKit
open Go.ChangeMaps (open_string shut_string)
set_option linter.unusedVariables false

theorem own : ownKnob Try.prog.godebug = none := by kernel_rfl
theorem laidOut : laidOutB Try.prog = true := by kernel_rfl

set_option maxRecDepth 100000 in
set_option maxHeartbeats 8000000 in
theorem walk (a0 : Option Addr) (n0 c0 : Nat) (x0 : List Tn) (a1 : Option Addr) (n1 c1 : Nat) (x1 : List Opl) (a2 : Int) (a3 : Int) (w : World) (w0 : TsL w a0 n0 x0 ∧ n0 ≤ c0 ∧ (a0 = none → n0 = 0 ∧ c0 = 0)) (w1 : OpsIn w a1 n1 x1 ∧ OpsF x1) (w2 : (Lit.int .u32 a2).wf = true) (w3 : (Lit.int .u64 a3).wf = true) :
    Calls Try.prog 8 #[.slice a0 n0 c0, .slice a1 n1 c1, .int .u32 a2, .int .u64 a3] w fun e w' => e = .returned (.bool true) ∧ Below w.heap.size w w' := by
  have k1 := lknown_any
  obtain ⟨hT, hcap, hnil⟩ := w0
  obtain ⟨hO, hF⟩ := w1
  have f7 : FitsW a2 := by have := bounds_u32 w2; unfold FitsW; omega
  have f8 : FitsQ a3 := by have := bounds_u64 w3; unfold FitsQ; omega
  have cT := tenants_of a0 n0 c0 x0 w hT
  by_cases hfew : FewT x0
  · rw [decide_eq_true hfew] at cT
    by_cases hl : (200 : Int) < n1
    · clear hT hO hF
      go_enter Try.func8, Try.ntmps8
      go_wp2_with (first | (go_at_call 12; refine cT.mono ?_; rintro e v0 ⟨rfl, B0⟩) | (go_at_call 9; refine (k1 _).mono ?_; rintro e v1 ⟨rfl, B1⟩))
      go_ret
      exact ⟨rfl, B0.trans (B1.mono B0.size)⟩
    · have hn : n1 ≤ 200 := by omega
      have hn0 : n0 ≤ 70 := by rw [← hT.1]; exact hfew.1
      have H : Hid (OpsIn w a1 n1 x1 ∧ OpsF x1 ∧ TsL w a0 n0 x0) := ⟨hO, hF, hT⟩
      have HF : Hid (FitsW a2 ∧ FitsQ a3) := ⟨f7, f8⟩
      clear hO hF hT w2 w3 f7 f8
      go_enter Try.func8, Try.ntmps8
      have HTS : Hid (∀ V, Below w.heap.size w V → TsL V a0 n0 x0) := fun V hV => H.out.2.2.below hV
      go_wp2_with (first
        | (go_at_call 12; refine cT.mono ?_; clear cT; rintro e v0 ⟨rfl, C0⟩)
        | (go_at_call 9; refine (k1 _).mono ?_; clear k1; rintro e v1 ⟨rfl, B1⟩; have C1 := C0.trans (B1.mono C0.size); have T1 := HTS.out v1 C1)
        | (go_at_call 13; refine (lNew_of a0 n0 c0 x0 _ T1 (by omega)).mono ?_; clear T1; rintro e v2 ⟨p, b1, b2, rfl, h2, B2, l1, l2, l3⟩))
      have hX0 : XP w v2 p b1 b2 n0 0 (quoS x0) (fun _ => 0) := ⟨h2, C1.trans (B2.mono C1.size), Nat.le_trans C1.size l3⟩
      have HQ : Hid ((quoS x0).length ≤ 1000) := by have := quo_le x0; have := hfew.1; show _ ≤ _; omega
      have HX : Hid (XP w v2 p b1 b2 n0 0 (quoS x0) (fun _ => 0)) := hX0
      clear hX0 C1 h2 B2 l1 l2 l3 C0 B1 HTS
      generalize quoS x0 = Q at HX HQ
      go_loopw [11] (fun i wr => ∃ (k : Nat) (u : Int → Int), k ≤ n1 ∧ i = .int .i64 k ∧ XP w wr p b1 b2 n0 k Q u) (fun i _ => n1 - (intOf i).toNat)
      case atStart => exact ⟨0, _, by omega, rfl, HX.out⟩
      case round =>
        obtain ⟨k, u, hk, rfl, hX⟩ := hrel
        by_cases hlt : k < n1
        · have hlt' : (k : Int) < n1 := by omega
          obtain ⟨b, off, o, ha, ho, hc⟩ := op_cells H.out.1 hlt
          subst ha
          have hf : OpF o := H.out.2.1 o (List.mem_of_getElem? ho)
          obtain ⟨d0, d1, d2⟩ := hc wr hX.bel
          obtain ⟨g, t, N⟩ := o
          simp only at d0 d1 d2 hc
          have HC : Hid (∀ W' : World, Below w.heap.size w W' → W'.cell? ⟨b, off + k * 3, none⟩ = some (.bool g) ∧ W'.cell? ⟨b, off + k * 3 + 1, none⟩ = some (.int .u32 t) ∧ W'.cell? ⟨b, off + k * 3 + 2, none⟩ = some (.int .u64 N)) := hc
          clear ho hc
          cases g with
          | true =>
            have hX1 : XP w wr.drew p b1 b2 n0 k Q u := hX.below (drewN_below _ wr 1)
            have cA := XP.give (b := okL Q u (true, t, N)) hX1 hf.1 hf.2 (by omega) rfl
            clear hX hX1 hf
            generalize okL Q u (true, t, N) = ok at cA
            generalize doL Q u (true, t, N) = u' at cA
            go_wp2_with fail
            go_region_held3 (fun X => X.cell? ⟨b, off + k * 3 + 1, none⟩ = some (.int .u32 t) ∧ X.cell? ⟨b, off + k * 3 + 2, none⟩ = some (.int .u64 N)) (first | exact ⟨d1, d2⟩ | exact (HC.out _ h1.bel).2)
              ((go_simp; go_at_call 23; refine cA.mono ?_; rintro e w1 ⟨rfl, h1⟩))
            all_goals go_wp2
            all_goals (
              go_roundw
              case rel => exact ⟨k + 1, _, by omega, by go_num, h1⟩
              case measure => simp [intOf]; omega)
          | false =>
            have hX1 : XP w wr.drew p b1 b2 n0 k Q u := hX.below (drewN_below _ wr 1)
            have cA := XP.take (b := okL Q u (false, t, N)) hX1 hf.1 hf.2 (by omega) rfl
            clear hX hX1 hf
            generalize okL Q u (false, t, N) = ok at cA
            generalize doL Q u (false, t, N) = u' at cA
            go_wp2_with fail
            go_region_held3 (fun X => X.cell? ⟨b, off + k * 3 + 1, none⟩ = some (.int .u32 t) ∧ X.cell? ⟨b, off + k * 3 + 2, none⟩ = some (.int .u64 N)) (first | exact ⟨d1, d2⟩ | exact (HC.out _ h1.bel).2)
              ((go_simp; go_at_call 24; refine cA.mono ?_; rintro e w1 ⟨rfl, h1⟩))
            all_goals go_wp2
            all_goals (
              go_roundw
              case rel => exact ⟨k + 1, _, by omega, by go_num, h1⟩
              case measure => simp [intOf]; omega)
        · have hlt' : ¬ ((k : Int) < n1) := by omega
          have hqf := quoI_fits hX.lp.qf a2
          have hwi := hX.lp.wi a2
          obtain ⟨lf, hlf⟩ : ∃ lf, quoI Q a2 - u a2 = lf := ⟨_, rfl⟩
          have l0 : 0 ≤ lf := by omega
          have l1 : lf ≤ 18446744073709551615 := by unfold FitsQ at hqf; omega
          have a30 : 0 ≤ a3 ∧ a3 ≤ 18446744073709551615 := by have := HF.out.2; unfold FitsQ at this; omega
          obtain ⟨a30, a31⟩ := a30
          have HW : Hid (quoI Q a2 - u a2 = lf ∧ 0 ≤ u a2 ∧ k ≤ 200) := ⟨hlf, hwi.1, by omega⟩
          clear hlf hwi hqf
          have cT3 : ∀ (V : World) (x : Value), a3 ≤ lf → XA w V p b1 b2 n0 k Q u u x → Calls Try.prog 24 #[.pointer (some ⟨p, 0, none⟩), .int .u32 a2, .int .u64 a3] V fun e w' => e = .returned (.bool true) ∧ XA w w' p b1 b2 n0 (k + 1) Q (upd u a2 (u a2 + a3)) u x :=
            fun V x hle h => h.take_yes HF.out.1 HF.out.2 (by have := HW.out; omega) (by have := HW.out; omega)
          have cN3 : ∀ (V : World) (x : Value), lf < a3 → XA w V p b1 b2 n0 k Q u u x → Calls Try.prog 24 #[.pointer (some ⟨p, 0, none⟩), .int .u32 a2, .int .u64 a3] V fun e w' => e = .returned (.bool false) ∧ XA w w' p b1 b2 n0 (k + 1) Q u u x :=
            fun V x hle h => h.take_no HF.out.1 HF.out.2 (by have := HW.out; omega) (by have := HW.out; omega)
          have cG : ∀ (V : World) (x : Value), XA w V p b1 b2 n0 (k + 1) Q (upd u a2 (u a2 + a3)) u x → Calls Try.prog 23 #[.pointer (some ⟨p, 0, none⟩), .int .u32 a2, .int .u64 a3] V fun e w' => e = .returned (.bool true) ∧ XA w w' p b1 b2 n0 (k + 1 + 1) Q u u x :=
            fun V x h => h.give_back HF.out.1 HF.out.2 (by have := HW.out; omega) HW.out.2.1
          have cM : ∀ (V : World) (x : Value) (m : Nat), m ≤ k + 2 → lf < 18446744073709551615 → XA w V p b1 b2 n0 m Q u u x → Calls Try.prog 24 #[.pointer (some ⟨p, 0, none⟩), .int .u32 a2, .int .u64 (lf + 1)] V fun e w' => e = .returned (.bool false) ∧ XA w w' p b1 b2 n0 (m + 1) Q u u x :=
            fun V x m hm hlt h => h.take_no HF.out.1 (by unfold FitsQ; omega) (by have := HW.out; omega) (by have := HW.out; omega)
          have cL : ∀ (V : World) (x : Value) (m : Nat), XA w V p b1 b2 n0 m Q u u x → Calls Try.prog 18 #[.pointer (some ⟨p, 0, none⟩), .int .u32 a2] V fun e w' => e = .returned (.int .u64 lf) ∧ XA w w' p b1 b2 n0 m Q u u x :=
            fun V x m h => h.left HF.out.1 HW.out.1
          by_cases hle : a3 ≤ lf
          · by_cases hmx : lf < 18446744073709551615
            · go_wp2_with (first
                | (go_at_call 21; refine (XP.all hX HQ.out).mono ?_; clear hX; rintro e y1 ⟨aw, cw, rfl, g1⟩)
                | (go_at_call 18; refine (cL _ _ _ g1).mono ?_; clear g1; rintro e y2 ⟨rfl, g2⟩)
                | (go_at_call 24; refine (cT3 _ _ hle g2).mono ?_; clear g2; rintro e y3 ⟨rfl, g3⟩)
                | (go_at_call 23; refine (cG _ _ g3).mono ?_; clear g3; rintro e y4 ⟨rfl, g4⟩)
                | (go_at_call 24; refine (cM _ _ _ (by omega) hmx g4).mono ?_; clear g4; rintro e y5 ⟨rfl, g5⟩)
                | (go_at_call 21; refine (XA.all g5 HQ.out).mono ?_; clear g5; rintro e y6 ⟨a6, c6, rfl, s6, g6⟩)
                | (go_at_call 20; refine (Got.same s6 g6.g HQ.out).mono ?_; rintro e y7 ⟨rfl, B7⟩; have g7 := g6.below B7; clear g6)
                | (go_at_call 18; refine (cL _ _ _ g7).mono ?_; clear g7; rintro e y8 ⟨rfl, g8⟩))
              go_ret
              exact ⟨rfl, g8.x.bel⟩
            · have hmx' : lf = 18446744073709551615 := by omega
              subst hmx'
              go_wp2_with (first
                | (go_at_call 21; refine (XP.all hX HQ.out).mono ?_; clear hX; rintro e y1 ⟨aw, cw, rfl, g1⟩)
                | (go_at_call 18; refine (cL _ _ _ g1).mono ?_; clear g1; rintro e y2 ⟨rfl, g2⟩)
                | (go_at_call 24; refine (cT3 _ _ hle g2).mono ?_; clear g2; rintro e y3 ⟨rfl, g3⟩)
                | (go_at_call 23; refine (cG _ _ g3).mono ?_; clear g3; rintro e y4 ⟨rfl, g4⟩)
                | (go_at_call 21; refine (XA.all g4 HQ.out).mono ?_; clear g4; rintro e y6 ⟨a6, c6, rfl, s6, g6⟩)
                | (go_at_call 20; refine (Got.same s6 g6.g HQ.out).mono ?_; rintro e y7 ⟨rfl, B7⟩; have g7 := g6.below B7; clear g6)
                | (go_at_call 18; refine (cL _ _ _ g7).mono ?_; clear g7; rintro e y8 ⟨rfl, g8⟩))
              go_ret
              exact ⟨rfl, g8.x.bel⟩
          · have hgt : lf < a3 := by omega
            have hmx : lf < 18446744073709551615 := by omega
            go_wp2_with (first
              | (go_at_call 21; refine (XP.all hX HQ.out).mono ?_; clear hX; rintro e y1 ⟨aw, cw, rfl, g1⟩)
              | (go_at_call 18; refine (cL _ _ _ g1).mono ?_; clear g1; rintro e y2 ⟨rfl, g2⟩)
              | (go_at_call 24; refine (cN3 _ _ hgt g2).mono ?_; clear g2; rintro e y3 ⟨rfl, g4⟩)
              | (go_at_call 24; refine (cM _ _ _ (by omega) hmx g4).mono ?_; clear g4; rintro e y5 ⟨rfl, g5⟩)
              | (go_at_call 21; refine (XA.all g5 HQ.out).mono ?_; clear g5; rintro e y6 ⟨a6, c6, rfl, s6, g6⟩)
              | (go_at_call 20; refine (Got.same s6 g6.g HQ.out).mono ?_; rintro e y7 ⟨rfl, B7⟩; have g7 := g6.below B7; clear g6)
              | (go_at_call 18; refine (cL _ _ _ g7).mono ?_; clear g7; rintro e y8 ⟨rfl, g8⟩))
            go_ret
            refine ⟨?_, g8.x.bel⟩
            show Ending.returned (.bool (!decide (a3 ≤ lf))) = _
            rw [decide_eq_false (show ¬ (a3 ≤ lf) by omega)]
            rfl
  · rw [decide_eq_false hfew] at cT
    clear hT hO hF
    go_enter Try.func8, Try.ntmps8
    go_wp2_with (first | (go_at_call 12; refine cT.mono ?_; rintro e v0 ⟨rfl, B0⟩) | (go_at_call 9; refine (k1 _).mono ?_; rintro e v1 ⟨rfl, B1⟩))
    go_ret
    exact ⟨rfl, B0.trans (B1.mono B0.size)⟩

set_option maxRecDepth 100000 in
theorem lifted (os : Os) (started : os.Started) (H : Type) (enc : TypeId × Value → H) :
    ReturnsInHanded {} Try.checked os 8 .any (Rows.ledgerBackSpec.pre6 enc Try.prog Try.f8 Rows.ledgerBackRow.domain false) (Rows.ledgerBackSpec.post enc Try.prog Try.f8 false true false false) := by
  refine returnsInHanded_of_change (C := Try.checked) own started (by kernel_rfl) Try.func8
    (ChangeSpec.witness6 (enc := enc) (C := Try.checked) false ⟨#[], #[.slice none 0 0, .slice none 0 0, .int .u32 0, .int .u64 0], []⟩ 8 (by kernel_rfl) (by kernel_rfl) (by kernel_rfl) (by kernel_rfl)) ?_
  intro W base args ds gs before hval0 hW hcnd _
  have hval : ∀ (j : Nat) t v, Try.f8.params[j]? = some t → args[j]? = some v → Value.okWide Try.prog W .any base t v := hval0
  have hW' := hW
  obtain ⟨p, q, hA0, hV, rfl, hfz, hnd⟩ := hW
  have hA : DataW.TrodAll enc Try.prog W 0 (fun _ => true) true Try.f8.params.toList args.toList ds p := hA0
  rw [Try.params8] at hA hval
  obtain ⟨v0, vs0, d0, ds0, p0, q0, hargs, rfl, rfl, h0, r0⟩ := trodAll_cons hA
  obtain ⟨v1, vs1, d1, ds1, p1, q1, rfl, rfl, rfl, h1, r1⟩ := trodAll_cons r0
  obtain ⟨v2, vs2, d2, ds2, p2, q2, rfl, rfl, rfl, h2, r2⟩ := trodAll_cons r1
  obtain ⟨v3, vs3, d3, ds3, p3, q3, rfl, rfl, rfl, h3, r3⟩ := trodAll_cons r2
  obtain ⟨rfl, rfl, rfl⟩ := trodAll_nil r3
  obtain rfl : args = #[v0, v1, v2, v3] := by cases args; simp_all
  obtain ⟨rfl, rfl⟩ := trodVars_none hV
  obtain ⟨a0, n0, c0, rfl⟩ := okWide_slice Try.underlying24 (hval 0 24 v0 rfl rfl)
  have k0 := h0
  have lt0 : ∀ x ∈ p0, x.block < W.heap.size := by obtain ⟨m, hm⟩ := k0; exact DataW.trod_lt m _ _ _ hm
  obtain ⟨x0, w0⟩ := open_tens h0
  obtain ⟨a1, n1, c1, rfl⟩ := okWide_slice Try.underlying27 (hval 1 27 v1 rfl rfl)
  have k1 := h1
  have lt1 : ∀ x ∈ p1, x.block < W.heap.size := by obtain ⟨m, hm⟩ := k1; exact DataW.trod_lt m _ _ _ hm
  obtain ⟨x1, w1⟩ := open_ops h1
  obtain ⟨a2, rfl, rfl, rfl, w2⟩ := open_int Try.underlying33 (hval 2 33 v2 rfl rfl) h2
  obtain ⟨a3, rfl, rfl, rfl, w3⟩ := open_int Try.underlying34 (hval 3 34 v3 rfl rfl) h3
  clear hA0 hval0
  refine (walk a0 n0 c0 x0 a1 n1 c1 x1 a2 a3 W w0 w1 w2 w3).mono fun e W' ⟨he, bel⟩ => ?_
  subst he
  exact ⟨_, rfl, _, _, _, [], _, [], hW', trodAll_mk1 (shut_bool Try.underlying4 _), (trodAll_cons_mk (Below.trod laidOut (by kernel_rfl) (of_decide_eq_true (by kernel_rfl)) k0 bel lt0) (trodAll_cons_mk (Below.trod laidOut (by kernel_rfl) (of_decide_eq_true (by kernel_rfl)) k1 bel lt1) (trodAll_cons_mk (shut_int Try.underlying33 w2) (trodAll_cons_mk (shut_int Try.underlying34 w3) trodAll_mk0)))), rfl, bel.frame _, fun h => by cases h⟩

theorem over : Rows.ledgerBackRow.holds Try.pinned (OpenSpec.ofChange Rows.ledgerBackSpec) :=
  OpenClaim.holds_of_wide 8 Try.f8 rfl rfl rfl rfl rfl rfl rfl ⟨rfl, rfl, rfl, rfl, rfl⟩ rfl rfl rfl rfl rfl (by kernel_rfl) Try.func8 (by kernel_rfl)
    (of_decide_eq_true (by kernel_rfl)) (by unfold Func.isWrapper; first | (rw [if_pos (by decide +kernel)]; kernel_rfl) | (rw [if_neg (by decide +kernel)]; exact ⟨rfl, rfl⟩))
    (fun os started H enc _ => lifted os started H enc)

end Go.Proofs.Ytkhldjpghjmgfaa.ledgerBack
namespace Go.Proofs.Ytkhldjpghjmgfaa
/-- The statement. -/
theorem ledgerBack_holds : Rows.LedgerBackSaid := ledgerBack.over
#print axioms ledgerBack_holds
end Go.Proofs.Ytkhldjpghjmgfaa
