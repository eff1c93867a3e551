/- For every list of tenants, every list of calls and every tenant the statement LedgerApart holds: what others take and give makes no difference to a tenant. -/
import Derived.Test.YtkhldjpghjmgfaaRows
import Derived.Test.YtkhldjpghjmgfaaLgA
import Derived.WalkKit
import Derived.ProofKit
import Derived.OpenShut
import Derived.ShutString
import Derived.ChangeOld
import Derived.Below
namespace Go.Proofs.Ytkhldjpghjmgfaa.ledgerApart
open Go.ChangeShapes Go.WideShapes Go.ChangeAt Go.RowKit
open Go.ChangeMaps (open_string shut_string)
set_option linter.unusedVariables false

theorem own : ownKnob Try.prog.godebug = none := by kernel_rfl
theorem laidOut : laidOutB Try.prog = true := by kernel_rfl

set_option maxRecDepth 100000 in
set_option maxHeartbeats 8000000 in
theorem walk (a0 : Option Addr) (n0 c0 : Nat) (x0 : List Tn) (a1 : Option Addr) (n1 c1 : Nat) (x1 : List Opl) (a2 : Int) (w : World) (w0 : TsL w a0 n0 x0 ∧ n0 ≤ c0 ∧ (a0 = none → n0 = 0 ∧ c0 = 0)) (w1 : OpsIn w a1 n1 x1 ∧ OpsF x1) (w2 : (Lit.int .u32 a2).wf = true) :
    Calls Try.prog 5 #[.slice a0 n0 c0, .slice a1 n1 c1, .int .u32 a2] w fun e w' => e = .returned (.bool true) ∧ Below w.heap.size w w' := by
  have k1 := lknown_any
  obtain ⟨hT, hcap, hnil⟩ := w0
  obtain ⟨hO, hF⟩ := w1
  have f7 : FitsW a2 := by have := bounds_u32 w2; unfold FitsW; omega
  have cT := tenants_of a0 n0 c0 x0 w hT
  by_cases hfew : FewT x0
  · rw [decide_eq_true hfew] at cT
    by_cases hl : (200 : Int) < n1
    · clear hT hO hF
      go_enter Try.func5, Try.ntmps5
      go_wp2_with (first | (go_at_call 12; refine cT.mono ?_; rintro e v0 ⟨rfl, B0⟩) | (go_at_call 9; refine (k1 _).mono ?_; rintro e v1 ⟨rfl, B1⟩))
      go_ret
      exact ⟨rfl, B0.trans (B1.mono B0.size)⟩
    · have hn : n1 ≤ 200 := by omega
      have hn0 : n0 ≤ 70 := by rw [← hT.1]; exact hfew.1
      have H : Hid (OpsIn w a1 n1 x1 ∧ OpsF x1 ∧ TsL w a0 n0 x0) := ⟨hO, hF, hT⟩
      clear hO hF hT w2
      go_enter Try.func5, Try.ntmps5
      have HTS : Hid (∀ V, Below w.heap.size w V → TsL V a0 n0 x0) := fun V hV => H.out.2.2.below hV
      go_wp2_with (first
        | (go_at_call 12; refine cT.mono ?_; clear cT; rintro e v0 ⟨rfl, C0⟩)
        | (go_at_call 9; refine (k1 _).mono ?_; clear k1; rintro e v1 ⟨rfl, B1⟩; have C1 := C0.trans (B1.mono C0.size); have T1 := HTS.out v1 C1)
        | (go_at_call 13; refine (lNew_of a0 n0 c0 x0 _ T2 (by omega)).mono ?_; clear T2; rintro e v3 ⟨p', b1', b2', rfl, h3, B3, m1, m2, m3⟩; have C3 := C2.trans (B3.mono C2.size); have T3 := HTS.out v3 C3)
        | (go_at_call 13; refine (lNew_of a0 n0 c0 x0 _ T1 (by omega)).mono ?_; clear T1; rintro e v2 ⟨p, b1, b2, rfl, h2, B2, l1, l2, l3⟩; have C2 := C1.trans (B2.mono C1.size); have T2 := HTS.out v2 C2)
        | (go_at_call 14; refine (dlNew_of a0 n0 c0 x0 _ T3 (by omega)).mono ?_; clear T3; rintro e v4 ⟨rfl, h4, B4⟩))
      have hT0 := tr_start C1 h2 B2 l3 h3 B3 m2 m3 h4 B4
      have hQl : (quoS x0).length ≤ 1000 := by have := quo_le x0; have := hfew.1; omega
      have HX : Hid (Tr w v4 p b1 b2 n0 0 p' b1' b2' 0 v3.heap.size (quoS x0) (fun _ => 0) (fun _ => 0) zU) := hT0
      clear hT0 C1 h2 B2 l1 l2 l3 h3 B3 m1 m2 m3 h4 B4 C0 B1 C2 C3 HTS
      generalize quoS x0 = Q at HX hQl
      generalize v3.heap.size = r at HX ⊢
      go_loopw [11] (fun i wr => ∃ (k m m' : Nat) (u v z : Int → Int), k ≤ n1 ∧ i = .int .i64 k ∧ m ≤ k ∧ m' ≤ k ∧ u a2 = v a2 ∧ Tr w wr p b1 b2 n0 m p' b1' b2' m' r Q u v z) (fun i _ => n1 - (intOf i).toNat)
      case atStart => exact ⟨0, 0, 0, _, _, _, by omega, rfl, by omega, by omega, rfl, HX.out⟩
      case round =>
        obtain ⟨k, m, m', u, v, z, hk, rfl, hm, hm', huv, hX⟩ := hrel
        by_cases hlt : k < n1
        · have hlt' : (k : Int) < n1 := by omega
          obtain ⟨b, off, o, ha, ho, hc⟩ := op_cells H.out.1 hlt
          subst ha
          have hf : OpF o := H.out.2.1 o (List.mem_of_getElem? ho)
          obtain ⟨d0, d1, d2⟩ := hc wr hX.bel
          obtain ⟨g, t, N⟩ := o
          simp only at d0 d1 d2
          clear ho hc
          by_cases ht : a2 = t
          · subst ht
            cases g with
            | true =>
              have hV : Tr w (wr.alloc (.cells #[.bool true, .int .u32 a2, .int .u64 N] 36)) p b1 b2 n0 m p' b1' b2' m' r Q u v z := hX.below ((Below.refl _ _).alloc (Nat.le_refl _) _)
              have bV : Blk (wr.alloc (.cells #[.bool true, .int .u32 a2, .int .u64 N] 36)) wr.heap.size (opC (true, a2, N)) 36 := Blk.new' rfl rfl
              have e1 : okL Q v (true, a2, N) = okL Q u (true, a2, N) := (ok_one (o := (true, a2, N)) huv).symm
              have e2 : doL Q v (true, a2, N) a2 = doL Q u (true, a2, N) a2 := (do_one (o := (true, a2, N)) huv).symm
              have cA := Tr.give (b := okL Q u (true, a2, N)) hV f7 hf.2 (by omega) rfl
              have cB : ∀ V, Tr w V p b1 b2 n0 (m + 1) p' b1' b2' m' r Q (doL Q u (true, a2, N)) v z → Calls Try.prog 23 #[.pointer (some ⟨p', 0, none⟩), .int .u32 a2, .int .u64 N] V fun e w' => e = .returned (.bool (okL Q u (true, a2, N))) ∧ Tr w w' p b1 b2 n0 (m + 1) p' b1' b2' (m' + 1) r Q (doL Q u (true, a2, N)) (doL Q v (true, a2, N)) z := fun V h => Tr.give2 h f7 hf.2 (by omega) e1
              have HB : Hid (Blk (wr.alloc (.cells #[.bool true, .int .u32 a2, .int .u64 N] 36)) wr.heap.size (opC (true, a2, N)) 36) := bV
              have wiu := (hX.bo.x.lp.wi.does (true, a2, N) hf.2.1) a2
              have hqf := quoI_fits hX.bo.x.lp.qf a2
              unfold FitsQ at hqf
              clear hV bV e1 hX
              generalize okL Q u (true, a2, N) = ok at cA cB
              generalize doL Q u (true, a2, N) = u' at cA cB e2 wiu
              generalize doL Q v (true, a2, N) = v' at cB e2
              generalize hq : quoI Q a2 = q at hqf wiu
              go_wp2_with (first
                | (go_at_call 23; refine cA.mono ?_; clear cA; rintro e w1 ⟨rfl, h1, hk1⟩; have bo1 := hk1 _ _ _ HB.out; have z2 : w1.cell? ⟨wr.heap.size, 2, none⟩ = some (.int .u64 N) := bo1.cell 2)
                | (go_at_call 23; refine (cB _ h1).mono ?_; clear cB; rintro e w2 ⟨rfl, h2⟩)
                | (go_at_call 16; refine (Tr.used h2 f7).mono ?_; clear h2; rintro e w3 ⟨rfl, h3⟩)
                | (go_at_call 16; refine (Tr.used2 h3 f7 e2).mono ?_; clear h3; rintro e w4 ⟨rfl, h4⟩)
                | (go_at_call 18; refine (Tr.left h4 f7).mono ?_; clear h4; rintro e w5 ⟨he, h5⟩; rw [hq] at he; subst he)
                | (go_at_call 18; refine (Tr.left2 h5 f7 e2).mono ?_; clear h5; rintro e w6 ⟨he, h6⟩; rw [hq] at he; subst he))
              go_roundw
              case rel => exact ⟨k + 1, m + 1, m' + 1, _, _, _, by omega, by go_num, by omega, by omega, e2.symm, h6⟩
              case measure => simp [intOf]; omega
            | false =>
              have hV : Tr w (wr.alloc (.cells #[.bool false, .int .u32 a2, .int .u64 N] 36)) p b1 b2 n0 m p' b1' b2' m' r Q u v z := hX.below ((Below.refl _ _).alloc (Nat.le_refl _) _)
              have bV : Blk (wr.alloc (.cells #[.bool false, .int .u32 a2, .int .u64 N] 36)) wr.heap.size (opC (false, a2, N)) 36 := Blk.new' rfl rfl
              have e1 : okL Q v (false, a2, N) = okL Q u (false, a2, N) := (ok_one (o := (false, a2, N)) huv).symm
              have e2 : doL Q v (false, a2, N) a2 = doL Q u (false, a2, N) a2 := (do_one (o := (false, a2, N)) huv).symm
              have cA := Tr.take (b := okL Q u (false, a2, N)) hV f7 hf.2 (by omega) rfl
              have cB : ∀ V, Tr w V p b1 b2 n0 (m + 1) p' b1' b2' m' r Q (doL Q u (false, a2, N)) v z → Calls Try.prog 24 #[.pointer (some ⟨p', 0, none⟩), .int .u32 a2, .int .u64 N] V fun e w' => e = .returned (.bool (okL Q u (false, a2, N))) ∧ Tr w w' p b1 b2 n0 (m + 1) p' b1' b2' (m' + 1) r Q (doL Q u (false, a2, N)) (doL Q v (false, a2, N)) z := fun V h => Tr.take2 h f7 hf.2 (by omega) e1
              have HB : Hid (Blk (wr.alloc (.cells #[.bool false, .int .u32 a2, .int .u64 N] 36)) wr.heap.size (opC (false, a2, N)) 36) := bV
              have wiu := (hX.bo.x.lp.wi.does (false, a2, N) hf.2.1) a2
              have hqf := quoI_fits hX.bo.x.lp.qf a2
              unfold FitsQ at hqf
              clear hV bV e1 hX
              generalize okL Q u (false, a2, N) = ok at cA cB
              generalize doL Q u (false, a2, N) = u' at cA cB e2 wiu
              generalize doL Q v (false, a2, N) = v' at cB e2
              generalize hq : quoI Q a2 = q at hqf wiu
              go_wp2_with (first
                | (go_at_call 24; refine cA.mono ?_; clear cA; rintro e w1 ⟨rfl, h1, hk1⟩; have bo1 := hk1 _ _ _ HB.out; have z2 : w1.cell? ⟨wr.heap.size, 2, none⟩ = some (.int .u64 N) := bo1.cell 2)
                | (go_at_call 24; refine (cB _ h1).mono ?_; clear cB; rintro e w2 ⟨rfl, h2⟩)
                | (go_at_call 16; refine (Tr.used h2 f7).mono ?_; clear h2; rintro e w3 ⟨rfl, h3⟩)
                | (go_at_call 16; refine (Tr.used2 h3 f7 e2).mono ?_; clear h3; rintro e w4 ⟨rfl, h4⟩)
                | (go_at_call 18; refine (Tr.left h4 f7).mono ?_; clear h4; rintro e w5 ⟨he, h5⟩; rw [hq] at he; subst he)
                | (go_at_call 18; refine (Tr.left2 h5 f7 e2).mono ?_; clear h5; rintro e w6 ⟨he, h6⟩; rw [hq] at he; subst he))
              go_roundw
              case rel => exact ⟨k + 1, m + 1, m' + 1, _, _, _, by omega, by go_num, by omega, by omega, e2.symm, h6⟩
              case measure => simp [intOf]; omega
          · have hV : Tr w (wr.alloc (.cells #[.bool g, .int .u32 t, .int .u64 N] 36)) p b1 b2 n0 m p' b1' b2' m' r Q u v z := hX.below ((Below.refl _ _).alloc (Nat.le_refl _) _)
            have cD : Calls Try.prog 15 #[.pointer (some ⟨p, 0, none⟩), .pointer (some ⟨r, 0, none⟩), .agg #[.bool g, .int .u32 t, .int .u64 N]] (wr.alloc (.cells #[.bool g, .int .u32 t, .int .u64 N] 36)) fun e w' => (∃ b, e = .returned (.bool b)) ∧ Tr w w' p b1 b2 n0 (m + 1) p' b1' b2' m' r Q (doL Q u (g, t, N)) v (doL Q z (g, t, N)) := hV.does hf (by omega) hQl
            have e2 : doL Q u (g, t, N) a2 = v a2 := (does_other (g, t, N) ht).trans huv
            have hne : (t != a2) = true := by simp only [bne_iff_ne, ne_eq]; exact fun e => ht e.symm
            clear hV hX
            go_wp2_with (go_at_call 15; refine cD.mono ?_; rintro e w1 ⟨⟨bb, rfl⟩, h1⟩)
            go_roundw
            case rel => exact ⟨k + 1, m + 1, m', _, _, _, by omega, by go_num, by omega, by omega, e2, h1⟩
            case measure => simp [intOf]; omega
        · have hlt' : ¬ ((k : Int) < n1) := by omega
          go_wp2
          go_ret
          exact ⟨rfl, hX.bel⟩
  · rw [decide_eq_false hfew] at cT
    clear hT hO hF
    go_enter Try.func5, Try.ntmps5
    go_wp2_with (first | (go_at_call 12; refine cT.mono ?_; rintro e v0 ⟨rfl, B0⟩) | (go_at_call 9; refine (k1 _).mono ?_; rintro e v1 ⟨rfl, B1⟩))
    go_ret
    exact ⟨rfl, B0.trans (B1.mono B0.size)⟩

set_option maxRecDepth 100000 in
theorem lifted (os : Os) (started : os.Started) (H : Type) (enc : TypeId × Value → H) :
    ReturnsInHanded {} Try.checked os 5 .any (Rows.ledgerApartSpec.pre6 enc Try.prog Try.f5 Rows.ledgerApartRow.domain false) (Rows.ledgerApartSpec.post enc Try.prog Try.f5 false true false false) := by
  refine returnsInHanded_of_change (C := Try.checked) own started (by kernel_rfl) Try.func5
    (ChangeSpec.witness6 (enc := enc) (C := Try.checked) false ⟨#[], #[.slice none 0 0, .slice none 0 0, .int .u32 0], []⟩ 8 (by kernel_rfl) (by kernel_rfl) (by kernel_rfl) (by kernel_rfl)) ?_
  intro W base args ds gs before hval0 hW hcnd _
  have hval : ∀ (j : Nat) t v, Try.f5.params[j]? = some t → args[j]? = some v → Value.okWide Try.prog W .any base t v := hval0
  have hW' := hW
  obtain ⟨p, q, hA0, hV, rfl, hfz, hnd⟩ := hW
  have hA : DataW.TrodAll enc Try.prog W 0 (fun _ => true) true Try.f5.params.toList args.toList ds p := hA0
  rw [Try.params5] at hA hval
  obtain ⟨v0, vs0, d0, ds0, p0, q0, hargs, rfl, rfl, h0, r0⟩ := trodAll_cons hA
  obtain ⟨v1, vs1, d1, ds1, p1, q1, rfl, rfl, rfl, h1, r1⟩ := trodAll_cons r0
  obtain ⟨v2, vs2, d2, ds2, p2, q2, rfl, rfl, rfl, h2, r2⟩ := trodAll_cons r1
  obtain ⟨rfl, rfl, rfl⟩ := trodAll_nil r2
  obtain rfl : args = #[v0, v1, v2] := by cases args; simp_all
  obtain ⟨rfl, rfl⟩ := trodVars_none hV
  obtain ⟨a0, n0, c0, rfl⟩ := okWide_slice Try.underlying24 (hval 0 24 v0 rfl rfl)
  have k0 := h0
  have lt0 : ∀ x ∈ p0, x.block < W.heap.size := by obtain ⟨m, hm⟩ := k0; exact DataW.trod_lt m _ _ _ hm
  obtain ⟨x0, w0⟩ := open_tens h0
  obtain ⟨a1, n1, c1, rfl⟩ := okWide_slice Try.underlying27 (hval 1 27 v1 rfl rfl)
  have k1 := h1
  have lt1 : ∀ x ∈ p1, x.block < W.heap.size := by obtain ⟨m, hm⟩ := k1; exact DataW.trod_lt m _ _ _ hm
  obtain ⟨x1, w1⟩ := open_ops h1
  obtain ⟨a2, rfl, rfl, rfl, w2⟩ := open_int Try.underlying33 (hval 2 33 v2 rfl rfl) h2
  clear hA0 hval0
  refine (walk a0 n0 c0 x0 a1 n1 c1 x1 a2 W w0 w1 w2).mono fun e W' ⟨he, bel⟩ => ?_
  subst he
  exact ⟨_, rfl, _, _, _, [], _, [], hW', trodAll_mk1 (shut_bool Try.underlying4 _), (trodAll_cons_mk (Below.trod laidOut (by kernel_rfl) (of_decide_eq_true (by kernel_rfl)) k0 bel lt0) (trodAll_cons_mk (Below.trod laidOut (by kernel_rfl) (of_decide_eq_true (by kernel_rfl)) k1 bel lt1) (trodAll_cons_mk (shut_int Try.underlying33 w2) trodAll_mk0))), rfl, bel.frame _, fun h => by cases h⟩

theorem over : Rows.ledgerApartRow.holds Try.pinned (OpenSpec.ofChange Rows.ledgerApartSpec) :=
  OpenClaim.holds_of_wide 5 Try.f5 rfl rfl rfl rfl rfl rfl rfl ⟨rfl, rfl, rfl, rfl, rfl⟩ rfl rfl rfl rfl rfl (by kernel_rfl) Try.func5 (by kernel_rfl)
    (of_decide_eq_true (by kernel_rfl)) (by unfold Func.isWrapper; first | (rw [if_pos (by decide +kernel)]; kernel_rfl) | (rw [if_neg (by decide +kernel)]; exact ⟨rfl, rfl⟩))
    (fun os started H enc _ => lifted os started H enc)

end Go.Proofs.Ytkhldjpghjmgfaa.ledgerApart
namespace Go.Proofs.Ytkhldjpghjmgfaa
/-- The statement. -/
theorem ledgerApart_holds : Rows.LedgerApartSaid := ledgerApart.over
#print axioms ledgerApart_holds
end Go.Proofs.Ytkhldjpghjmgfaa
