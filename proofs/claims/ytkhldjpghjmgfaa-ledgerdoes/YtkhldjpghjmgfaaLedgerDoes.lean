/- any calls on any tenants: each answers as the chapter says, and so do Used, Left and All behind each. -/
import Derived.Test.YtkhldjpghjmgfaaRows
import Derived.Test.YtkhldjpghjmgfaaLgKn
import Derived.Test.YtkhldjpghjmgfaaLgOpen
import Derived.Test.YtkhldjpghjmgfaaLgTe
import Derived.Test.YtkhldjpghjmgfaaLgDo
import Derived.WalkKit
import Derived.ProofKit
import Derived.OpenShut
import Derived.ShutString
import Derived.ChangeOld
import Derived.Below
namespace Go.Proofs.Ytkhldjpghjmgfaa.ledgerDoes
open Go.ChangeShapes Go.WideShapes Go.ChangeAt Go.RowKit
open Go.ChangeMaps (open_string shut_string)
set_option linter.unusedVariables false

theorem own : ownKnob Try.prog.godebug = none := by kernel_rfl
theorem laidOut : laidOutB Try.prog = true := by kernel_rfl

set_option maxRecDepth 100000 in
set_option maxHeartbeats 8000000 in
theorem walk (a0 : Option Addr) (n0 c0 : Nat) (x0 : List Tn) (a1 : Option Addr) (n1 c1 : Nat) (x1 : List Opl) (w : World) (w0 : TsL w a0 n0 x0 ∧ n0 ≤ c0 ∧ (a0 = none → n0 = 0 ∧ c0 = 0)) (w1 : OpsIn w a1 n1 x1 ∧ OpsF x1) :
    Calls Try.prog 4 #[.slice a0 n0 c0, .slice a1 n1 c1] w fun e w' => e = .returned (.bool true) ∧ Below w.heap.size w w' := by
  have k1 := lknown_any
  obtain ⟨hT, hcap, hnil⟩ := w0
  obtain ⟨hO, hF⟩ := w1
  have cT := tenants_of a0 n0 c0 x0 w hT
  by_cases hfew : FewT x0
  · rw [decide_eq_true hfew] at cT
    by_cases hl : (200 : Int) < n1
    · clear hT hO hF
      go_enter Try.func4, Try.ntmps4
      go_wp2_with (first | (go_at_call 12; refine cT.mono ?_; rintro e v0 ⟨rfl, B0⟩) | (go_at_call 9; refine (k1 _).mono ?_; rintro e v1 ⟨rfl, B1⟩))
      go_ret
      exact ⟨rfl, B0.trans (B1.mono B0.size)⟩
    · have hn : n1 ≤ 200 := by omega
      have hn0 : n0 ≤ 70 := by rw [← hT.1]; exact hfew.1
      have H : Hid (OpsIn w a1 n1 x1 ∧ OpsF x1 ∧ TsL w a0 n0 x0) := ⟨hO, hF, hT⟩
      clear hO hF hT
      go_enter Try.func4, Try.ntmps4
      have HTS : Hid (∀ V, Below w.heap.size w V → TsL V a0 n0 x0) := fun V hV => H.out.2.2.below hV
      go_wp2_with (first
        | (go_at_call 12; refine cT.mono ?_; clear cT; rintro e v0 ⟨rfl, C0⟩)
        | (go_at_call 9; refine (k1 _).mono ?_; clear k1; rintro e v1 ⟨rfl, B1⟩; have C1 := C0.trans (B1.mono C0.size); have T1 := HTS.out v1 C1)
        | (go_at_call 13; refine (lNew_of a0 n0 c0 x0 _ T1 (by omega)).mono ?_; clear T1; rintro e v2 ⟨p, b1, b2, rfl, h2, B2, l1, l2, l3⟩; have C2 := C1.trans (B2.mono C1.size); have T2 := HTS.out v2 C2)
        | (go_at_call 14; refine (dlNew_of a0 n0 c0 x0 _ T2 (by omega)).mono ?_; clear T2; rintro e v4 ⟨rfl, h4, B4⟩))
      have hT0 := bo_start C1 h2 B2 l3 h4 B4
      have hQl : (quoS x0).length ≤ 1000 := by have := quo_le x0; have := hfew.1; omega
      have HX : Hid (Bo w v4 p b1 b2 n0 0 v2.heap.size (quoS x0) zU zU) := hT0
      clear hT0 C1 h2 B2 l1 l2 l3 h4 B4 C0 B1 C2 HTS
      generalize quoS x0 = Q at HX hQl
      generalize v2.heap.size = r at HX ⊢
      have HQ : Hid (Q.length ≤ 1000) := hQl
      clear hQl
      go_loopw [8] (fun i wr => ∃ (k m : Nat) (u : Int → Int), k ≤ n1 ∧ i = .int .i64 k ∧ m ≤ k ∧ Bo w wr p b1 b2 n0 m r Q u u) (fun i _ => n1 - (intOf i).toNat)
      case atStart => exact ⟨0, 0, zU, by omega, rfl, by omega, HX.out⟩
      case round =>
        obtain ⟨k, m, u, hk, rfl, hm, hX⟩ := hrel
        by_cases hlt : k < n1
        · have hlt' : (k : Int) < n1 := by omega
          obtain ⟨b, off, o, ha, ho, hc⟩ := op_cells H.out.1 hlt
          subst ha
          have hf : OpF o := H.out.2.1 o (List.mem_of_getElem? ho)
          obtain ⟨d0, d1, d2⟩ := hc wr hX.x.bel
          obtain ⟨g, t, N⟩ := o
          simp only at d0 d1 d2
          clear ho hc
          have f7 : FitsW t := hf.1
          have cD : Calls Try.prog 15 #[.pointer (some ⟨p, 0, none⟩), .pointer (some ⟨r, 0, none⟩), .agg #[.bool g, .int .u32 t, .int .u64 N]] wr fun e w' => e = .returned (.bool true) ∧ Bo w w' p b1 b2 n0 (m + 1) r Q (doL Q u (g, t, N)) (doL Q u (g, t, N)) := by
            refine (ldoes_of (g, t, N) wr hX hf (by omega) HQ.out).mono ?_
            rintro e w' ⟨rfl, hb, _⟩
            exact ⟨by rw [beq_self_eq_true], hb⟩
          have HF : Hid (FitsW t) := f7
          clear hX f7 hf
          generalize doL Q u (g, t, N) = u' at cD
          go_wp2_with (first
            | (go_at_call 15; refine cD.mono ?_; clear cD; rintro e w1 ⟨rfl, h1⟩)
            | (go_at_call 16; refine (Bo.used h1 HF.out).mono ?_; clear h1; rintro e w2 ⟨rfl, h2⟩)
            | (go_at_call 17; refine (Bo.dused h2 HQ.out).mono ?_; clear h2; rintro e w3 ⟨rfl, h3⟩)
            | (go_at_call 18; refine (Bo.left h3 HF.out).mono ?_; clear h3; rintro e w4 ⟨rfl, h4⟩)
            | (go_at_call 19; refine (Bo.dleft h4 HQ.out).mono ?_; clear h4; rintro e w5 ⟨rfl, h5⟩)
            | (go_at_call 21; refine (Bo.all h5 HQ.out).mono ?_; clear h5; rintro e w6 ⟨⟨a6, c6, rfl, g6⟩, h6, B6⟩)
            | (go_at_call 22; refine (Bo.dall h6 HQ.out).mono ?_; clear h6; rintro e w7 ⟨⟨a7, c7, rfl, g7⟩, h7, B7⟩)
            | (go_at_call 20; refine (Got.same (g6.below B7) g7 HQ.out).mono ?_; rintro e w8 ⟨rfl, B8⟩))
          go_roundw
          case rel => exact ⟨k + 1, m + 1, _, by omega, by go_num, by omega, h7.below B8⟩
          case measure => simp [intOf]; omega
        · have hlt' : ¬ ((k : Int) < n1) := by omega
          go_wp2_with (first
            | (go_at_call 21; refine (Bo.all hX HQ.out).mono ?_; clear hX; rintro e w6 ⟨⟨a6, c6, rfl, g6⟩, h6, B6⟩)
            | (go_at_call 22; refine (Bo.dall h6 HQ.out).mono ?_; clear h6; rintro e w7 ⟨⟨a7, c7, rfl, g7⟩, h7, B7⟩)
            | (go_at_call 20; refine (Got.same (g6.below B7) g7 HQ.out).mono ?_; rintro e w8 ⟨rfl, B8⟩))
          go_ret
          exact ⟨rfl, (h7.below B8).x.bel⟩
  · rw [decide_eq_false hfew] at cT
    clear hT hO hF
    go_enter Try.func4, Try.ntmps4
    go_wp2_with (first | (go_at_call 12; refine cT.mono ?_; rintro e v0 ⟨rfl, B0⟩) | (go_at_call 9; refine (k1 _).mono ?_; rintro e v1 ⟨rfl, B1⟩))
    go_ret
    exact ⟨rfl, B0.trans (B1.mono B0.size)⟩

set_option maxRecDepth 100000 in
theorem lifted (os : Os) (started : os.Started) (H : Type) (enc : TypeId × Value → H) :
    ReturnsInHanded {} Try.checked os 4 .any (Rows.ledgerDoesSpec.pre6 enc Try.prog Try.f4 Rows.ledgerDoesRow.domain false) (Rows.ledgerDoesSpec.post enc Try.prog Try.f4 false true false false) := by
  refine returnsInHanded_of_change (C := Try.checked) own started (by kernel_rfl) Try.func4
    (ChangeSpec.witness6 (enc := enc) (C := Try.checked) false ⟨#[], #[.slice none 0 0, .slice none 0 0], []⟩ 8 (by kernel_rfl) (by kernel_rfl) (by kernel_rfl) (by kernel_rfl)) ?_
  intro W base args ds gs before hval0 hW hcnd _
  have hval : ∀ (j : Nat) t v, Try.f4.params[j]? = some t → args[j]? = some v → Value.okWide Try.prog W .any base t v := hval0
  have hW' := hW
  obtain ⟨p, q, hA0, hV, rfl, hfz, hnd⟩ := hW
  have hA : DataW.TrodAll enc Try.prog W 0 (fun _ => true) true Try.f4.params.toList args.toList ds p := hA0
  rw [Try.params4] at hA hval
  obtain ⟨v0, vs0, d0, ds0, p0, q0, hargs, rfl, rfl, h0, r0⟩ := trodAll_cons hA
  obtain ⟨v1, vs1, d1, ds1, p1, q1, rfl, rfl, rfl, h1, r1⟩ := trodAll_cons r0
  obtain ⟨rfl, rfl, rfl⟩ := trodAll_nil r1
  obtain rfl : args = #[v0, v1] := by cases args; simp_all
  obtain ⟨rfl, rfl⟩ := trodVars_none hV
  obtain ⟨a0, n0, c0, rfl⟩ := okWide_slice Try.underlying24 (hval 0 24 v0 rfl rfl)
  have k0 := h0
  have lt0 : ∀ x ∈ p0, x.block < W.heap.size := by obtain ⟨m, hm⟩ := k0; exact DataW.trod_lt m _ _ _ hm
  obtain ⟨x0, w0⟩ := open_tens h0
  obtain ⟨a1, n1, c1, rfl⟩ := okWide_slice Try.underlying27 (hval 1 27 v1 rfl rfl)
  have k1 := h1
  have lt1 : ∀ x ∈ p1, x.block < W.heap.size := by obtain ⟨m, hm⟩ := k1; exact DataW.trod_lt m _ _ _ hm
  obtain ⟨x1, w1⟩ := open_ops h1
  clear hA0 hval0
  refine (walk a0 n0 c0 x0 a1 n1 c1 x1 W w0 w1).mono fun e W' ⟨he, bel⟩ => ?_
  subst he
  exact ⟨_, rfl, _, _, _, [], _, [], hW', trodAll_mk1 (shut_bool Try.underlying4 _), (trodAll_cons_mk (Below.trod laidOut (by kernel_rfl) (of_decide_eq_true (by kernel_rfl)) k0 bel lt0) (trodAll_cons_mk (Below.trod laidOut (by kernel_rfl) (of_decide_eq_true (by kernel_rfl)) k1 bel lt1) trodAll_mk0)), rfl, bel.frame _, fun h => by cases h⟩

theorem over : Rows.ledgerDoesRow.holds Try.pinned (OpenSpec.ofChange Rows.ledgerDoesSpec) :=
  OpenClaim.holds_of_wide 4 Try.f4 rfl rfl rfl rfl rfl rfl rfl ⟨rfl, rfl, rfl, rfl, rfl⟩ rfl rfl rfl rfl rfl (by kernel_rfl) Try.func4 (by kernel_rfl)
    (of_decide_eq_true (by kernel_rfl)) (by unfold Func.isWrapper; first | (rw [if_pos (by decide +kernel)]; kernel_rfl) | (rw [if_neg (by decide +kernel)]; exact ⟨rfl, rfl⟩))
    (fun os started H enc _ => lifted os started H enc)

end Go.Proofs.Ytkhldjpghjmgfaa.ledgerDoes
namespace Go.Proofs.Ytkhldjpghjmgfaa
/-- The statement. -/
theorem ledgerDoes_holds : Rows.LedgerDoesSaid := ledgerDoes.over
#print axioms ledgerDoes_holds
end Go.Proofs.Ytkhldjpghjmgfaa
