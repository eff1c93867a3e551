/- For every quota and every list of calls the statement LedgerBounds holds: nobody has used more than the quota, what is used and what is left are the quota, Take and Give fail just where they should. -/
import Derived.Test.YtkhldjpghjmgfaaRows
import Derived.Test.YtkhldjpghjmgfaaLgX
import Derived.WalkKit
import Derived.ProofKit
import Derived.OpenShut
import Derived.ShutString
import Derived.ChangeOld
import Derived.Below
namespace Go.Proofs.Ytkhldjpghjmgfaa.ledgerBounds
open Go.ChangeShapes Go.WideShapes Go.ChangeAt Go.RowKit
open Go.ChangeMaps (open_string shut_string)
set_option linter.unusedVariables false

theorem own : ownKnob Try.prog.godebug = none := by kernel_rfl
theorem laidOut : laidOutB Try.prog = true := by kernel_rfl

set_option maxRecDepth 100000 in
set_option maxHeartbeats 4000000 in
theorem walk (a0 : Int) (a1 : Option Addr) (n1 c1 : Nat) (x1 : List Opl) (w : World) (w0 : (Lit.int .u64 a0).wf = true) (w1 : OpsIn w a1 n1 x1 ∧ OpsF x1) :
    Calls Try.prog 6 #[.int .u64 a0, .slice a1 n1 c1] w fun e w' => e = .returned (.bool true) ∧ Below w.heap.size w w' := by
  have k1 := lknown_any w
  obtain ⟨hO, hF⟩ := w1
  have hq : FitsQ a0 := by have := bounds_u64 w0; unfold FitsQ; omega
  by_cases hl : (200 : Int) < n1
  · go_enter Try.func6, Try.ntmps6
    go_wp2_with (go_at_call 9; refine k1.mono ?_; rintro e v1 ⟨rfl, B1⟩)
    go_ret
    exact ⟨rfl, B1⟩
  · have H : Hid (OpsIn w a1 n1 x1 ∧ OpsF x1 ∧ FitsQ a0) := ⟨hO, hF, hq⟩
    have hn : n1 ≤ 200 := by omega
    have f7 : FitsW 7 := ⟨by decide, by decide⟩
    clear hO hF w0
    go_enter Try.func6, Try.ntmps6
    go_wp2_with (first | (go_at_call 9; refine k1.mono ?_; clear k1; rintro e v1 ⟨rfl, B1⟩) | (go_at_call 13; refine (one_new f7 hq B1).mono ?_; rintro e v2 ⟨p, b1, b2, rfl, X0⟩))
    have HX : Hid (XP w v2 p b1 b2 1 0 [(7, a0)] (fun _ => 0)) := X0
    clear X0 B1
    go_loopw [6] (fun i wr => ∃ (k : Nat) (u : Int → Int), k ≤ n1 ∧ i = .int .i64 k ∧ XP w wr p b1 b2 1 k [(7, a0)] u) (fun i _ => n1 - (intOf i).toNat)
    case atStart => exact ⟨0, _, by omega, rfl, HX.out⟩
    case round =>
      obtain ⟨k, u, hk, rfl, hX⟩ := hrel
      by_cases hlt : k < n1
      · have hlt' : (k : Int) < n1 := by omega
        obtain ⟨b, off, o, ha, ho, hc⟩ := op_cells H.out.1 hlt
        subst ha
        have hf : OpF o := H.out.2.1 o (List.mem_of_getElem? ho)
        have hk0 : (k : Int) < 200 := by omega
        have hqi : quoI [(7, a0)] 7 = a0 := rfl
        have wi := hX.lp.wi 7
        have hfn := hf.2
        have hfq := hf.2
        rw [hqi] at wi
        unfold FitsQ at hq hfq
        obtain ⟨g, t, N⟩ := o
        simp only at hc hf hfn hfq
        have HC : Hid (∀ W', Below w.heap.size w W' → _) := hc
        obtain ⟨d0, d1, d2⟩ := hc wr hX.bel
        clear ho hc
        cases g with
        | true =>
          by_cases hx : N ≤ u 7
          · have hb : okL [(7, a0)] u (true, 7, N) = true := decide_eq_true hx
            have wi2 := (hX.lp.wi.does (true, 7, N) hfq.1) 7
            rw [hqi] at wi2
            have cc : ∀ W', XP w W' p b1 b2 1 k [(7, a0)] u → Calls Try.prog 23 #[.pointer (some ⟨p, 0, none⟩), .int .u32 7, .int .u64 N] W' fun e w' => e = .returned (.bool true) ∧ XP w w' p b1 b2 1 (k + 1) [(7, a0)] (doL [(7, a0)] u (true, 7, N)) := fun W' h => XP.give h f7 hfn (by omega) hb
            generalize doL [(7, a0)] u (true, 7, N) = u' at wi2 cc
            clear hb hfn
            go_wp2_with (first
              | (go_at_call 16; refine (XP.used (by assumption) f7).mono ?_; rintro e wN ⟨rfl, hN⟩; obtain ⟨dA, dB, dC⟩ := HC.out wN hN.bel)
              | (go_at_call 23; refine (cc _ (by assumption)).mono ?_; rintro e wM ⟨rfl, hM⟩)
              | (go_at_call 18; refine (XP.left (by assumption) f7).mono ?_; rintro e wL ⟨he, hL⟩; rw [hqi] at he; subst he))
            · exfalso
              rename_i hh
              simp only [bne_iff_ne, ne_eq] at hh
              omega
            · go_roundw
              case rel => exact ⟨k + 1, _, by omega, by go_num, by assumption⟩
              case measure => simp [intOf]; omega
          · have hb : okL [(7, a0)] u (true, 7, N) = false := decide_eq_false hx
            have wi2 := (hX.lp.wi.does (true, 7, N) hfq.1) 7
            rw [hqi] at wi2
            have cc : ∀ W', XP w W' p b1 b2 1 k [(7, a0)] u → Calls Try.prog 23 #[.pointer (some ⟨p, 0, none⟩), .int .u32 7, .int .u64 N] W' fun e w' => e = .returned (.bool false) ∧ XP w w' p b1 b2 1 (k + 1) [(7, a0)] (doL [(7, a0)] u (true, 7, N)) := fun W' h => XP.give h f7 hfn (by omega) hb
            generalize doL [(7, a0)] u (true, 7, N) = u' at wi2 cc
            clear hb hfn
            go_wp2_with (first
              | (go_at_call 16; refine (XP.used (by assumption) f7).mono ?_; rintro e wN ⟨rfl, hN⟩; obtain ⟨dA, dB, dC⟩ := HC.out wN hN.bel)
              | (go_at_call 23; refine (cc _ (by assumption)).mono ?_; rintro e wM ⟨rfl, hM⟩)
              | (go_at_call 18; refine (XP.left (by assumption) f7).mono ?_; rintro e wL ⟨he, hL⟩; rw [hqi] at he; subst he))
            · exfalso
              rename_i hh
              simp only [bne_iff_ne, ne_eq] at hh
              omega
            · go_roundw
              case rel => exact ⟨k + 1, _, by omega, by go_num, by assumption⟩
              case measure => simp [intOf]; omega
        | false =>
          by_cases hx : N ≤ a0 - u 7
          · have hb : okL [(7, a0)] u (false, 7, N) = true := decide_eq_true hx
            have wi2 := (hX.lp.wi.does (false, 7, N) hfq.1) 7
            rw [hqi] at wi2
            have cc : ∀ W', XP w W' p b1 b2 1 k [(7, a0)] u → Calls Try.prog 24 #[.pointer (some ⟨p, 0, none⟩), .int .u32 7, .int .u64 N] W' fun e w' => e = .returned (.bool true) ∧ XP w w' p b1 b2 1 (k + 1) [(7, a0)] (doL [(7, a0)] u (false, 7, N)) := fun W' h => XP.take h f7 hfn (by omega) hb
            generalize doL [(7, a0)] u (false, 7, N) = u' at wi2 cc
            clear hb hfn
            go_wp2_with (first
              | (go_at_call 16; refine (XP.used (by assumption) f7).mono ?_; rintro e wN ⟨rfl, hN⟩; obtain ⟨dA, dB, dC⟩ := HC.out wN hN.bel)
              | (go_at_call 24; refine (cc _ (by assumption)).mono ?_; rintro e wM ⟨rfl, hM⟩)
              | (go_at_call 18; refine (XP.left (by assumption) f7).mono ?_; rintro e wL ⟨he, hL⟩; rw [hqi] at he; subst he))
            · exfalso
              rename_i hh
              simp only [bne_iff_ne, ne_eq] at hh
              omega
            · go_roundw
              case rel => exact ⟨k + 1, _, by omega, by go_num, by assumption⟩
              case measure => simp [intOf]; omega
          · have hb : okL [(7, a0)] u (false, 7, N) = false := decide_eq_false hx
            have wi2 := (hX.lp.wi.does (false, 7, N) hfq.1) 7
            rw [hqi] at wi2
            have cc : ∀ W', XP w W' p b1 b2 1 k [(7, a0)] u → Calls Try.prog 24 #[.pointer (some ⟨p, 0, none⟩), .int .u32 7, .int .u64 N] W' fun e w' => e = .returned (.bool false) ∧ XP w w' p b1 b2 1 (k + 1) [(7, a0)] (doL [(7, a0)] u (false, 7, N)) := fun W' h => XP.take h f7 hfn (by omega) hb
            generalize doL [(7, a0)] u (false, 7, N) = u' at wi2 cc
            clear hb hfn
            go_wp2_with (first
              | (go_at_call 16; refine (XP.used (by assumption) f7).mono ?_; rintro e wN ⟨rfl, hN⟩; obtain ⟨dA, dB, dC⟩ := HC.out wN hN.bel)
              | (go_at_call 24; refine (cc _ (by assumption)).mono ?_; rintro e wM ⟨rfl, hM⟩)
              | (go_at_call 18; refine (XP.left (by assumption) f7).mono ?_; rintro e wL ⟨he, hL⟩; rw [hqi] at he; subst he))
            · exfalso
              rename_i hh
              simp only [bne_iff_ne, ne_eq] at hh
              omega
            · go_roundw
              case rel => exact ⟨k + 1, _, by omega, by go_num, by assumption⟩
              case measure => simp [intOf]; omega
      · have hlt' : ¬ ((k : Int) < n1) := by omega
        go_wp2
        go_ret
        exact ⟨rfl, hX.bel⟩

set_option maxRecDepth 100000 in
theorem lifted (os : Os) (started : os.Started) (H : Type) (enc : TypeId × Value → H) :
    ReturnsInHanded {} Try.checked os 6 .any (Rows.ledgerBoundsSpec.pre6 enc Try.prog Try.f6 Rows.ledgerBoundsRow.domain false) (Rows.ledgerBoundsSpec.post enc Try.prog Try.f6 false true false false) := by
  refine returnsInHanded_of_change (C := Try.checked) own started (by kernel_rfl) Try.func6
    (ChangeSpec.witness6 (enc := enc) (C := Try.checked) false ⟨#[], #[.int .u64 0, .slice none 0 0], []⟩ 8 (by kernel_rfl) (by kernel_rfl) (by kernel_rfl) (by kernel_rfl)) ?_
  intro W base args ds gs before hval0 hW hcnd _
  have hval : ∀ (j : Nat) t v, Try.f6.params[j]? = some t → args[j]? = some v → Value.okWide Try.prog W .any base t v := hval0
  have hW' := hW
  obtain ⟨p, q, hA0, hV, rfl, hfz, hnd⟩ := hW
  have hA : DataW.TrodAll enc Try.prog W 0 (fun _ => true) true Try.f6.params.toList args.toList ds p := hA0
  rw [Try.params6] at hA hval
  obtain ⟨v0, vs0, d0, ds0, p0, q0, hargs, rfl, rfl, h0, r0⟩ := trodAll_cons hA
  obtain ⟨v1, vs1, d1, ds1, p1, q1, rfl, rfl, rfl, h1, r1⟩ := trodAll_cons r0
  obtain ⟨rfl, rfl, rfl⟩ := trodAll_nil r1
  obtain rfl : args = #[v0, v1] := by cases args; simp_all
  obtain ⟨rfl, rfl⟩ := trodVars_none hV
  obtain ⟨a0, rfl, rfl, rfl, w0⟩ := open_int Try.underlying34 (hval 0 34 v0 rfl rfl) h0
  obtain ⟨a1, n1, c1, rfl⟩ := okWide_slice Try.underlying27 (hval 1 27 v1 rfl rfl)
  have k1 := h1
  have lt1 : ∀ x ∈ p1, x.block < W.heap.size := by obtain ⟨m, hm⟩ := k1; exact DataW.trod_lt m _ _ _ hm
  obtain ⟨x1, w1⟩ := open_ops h1
  clear hA0 hval0
  refine (walk a0 a1 n1 c1 x1 W w0 w1).mono fun e W' ⟨he, bel⟩ => ?_
  subst he
  exact ⟨_, rfl, _, _, _, [], _, [], hW', trodAll_mk1 (shut_bool Try.underlying4 _), (trodAll_cons_mk (shut_int Try.underlying34 w0) (trodAll_cons_mk (Below.trod laidOut (by kernel_rfl) (of_decide_eq_true (by kernel_rfl)) k1 bel lt1) trodAll_mk0)), rfl, bel.frame _, fun h => by cases h⟩

theorem over : Rows.ledgerBoundsRow.holds Try.pinned (OpenSpec.ofChange Rows.ledgerBoundsSpec) :=
  OpenClaim.holds_of_wide 6 Try.f6 rfl rfl rfl rfl rfl rfl rfl ⟨rfl, rfl, rfl, rfl, rfl⟩ rfl rfl rfl rfl rfl (by kernel_rfl) Try.func6 (by kernel_rfl)
    (of_decide_eq_true (by kernel_rfl)) (by unfold Func.isWrapper; first | (rw [if_pos (by decide +kernel)]; kernel_rfl) | (rw [if_neg (by decide +kernel)]; exact ⟨rfl, rfl⟩))
    (fun os started H enc _ => lifted os started H enc)

end Go.Proofs.Ytkhldjpghjmgfaa.ledgerBounds
namespace Go.Proofs.Ytkhldjpghjmgfaa
/-- The statement. -/
theorem ledgerBounds_holds : Rows.LedgerBoundsSaid := ledgerBounds.over
#print axioms ledgerBounds_holds
end Go.Proofs.Ytkhldjpghjmgfaa
