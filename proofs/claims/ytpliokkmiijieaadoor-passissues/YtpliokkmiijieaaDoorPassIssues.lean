/- For every list of bytes and every token that can be handed in the law PassIssues returns true, and the list reads as it did. -/
import Derived.Test.YtpliokkmiijieaaDoorRows
import Derived.Test.YtpliokkmiijieaaDoorCards
import Derived.Test.YtpliokkmiijieaaDoorTie
import Derived.Test.YtpliokkmiijieaaDoorLaid
import Derived.Test.YtpliokkmiijieaaDoorPOpen
import Derived.Test.YtpliokkmiijieaaDoorPRef
import Derived.Test.YtpliokkmiijieaaDoorPKnown
import Derived.Lib.QuietBelow
import Derived.BigQuiet
import Derived.Stop.Joined
import Derived.SevenTiedAt
import Derived.WalkKit
import Derived.ProofKit
import Derived.OpenShut
import Derived.ShutString
import Derived.ChangeOld
import Derived.Below
namespace Go.Proofs.YtpliokkmiijieaaDoor.passIssues
open Go.ChangeShapes Go.WideShapes Go.ChangeAt Go.RowKit
open Go.ChangeMaps (open_string shut_string)
set_option linter.unusedVariables false
set_option maxRecDepth 4000

open Go.Sort
theorem known_grown {w : World} (h : GIn w) (d : Nat) (os : Array Obj) : Calls Tryd.prog 9 #[] (grow (redrawn w d) os) fun e w'' => e = .returned (.bool true) ∧ ∃ p : Regrown, w'' = grow (redrawn w p.d) p.os :=
  Calls.regrown_of (pknown_any _ (h.below (below_regrown w d os) h.lt))
set_option maxHeartbeats 1000000 in
theorem walk (a0 : Option Addr) (n0 c0 : Nat) (z0 : List Int) (t1 : Tok) (w : World) (hG : GIn w) (w0 : BIn w a0 n0 z0 ∧ n0 ≤ c0 ∧ (a0 = none → n0 = 0 ∧ c0 = 0)) (w1 : t1.Fits) :
    Calls Tryd.prog 3 #[.slice a0 n0 c0, tokV t1] w fun e w' => e = .returned (.bool true) ∧ Below w.heap.size w w' := by
  have H : Hid (GIn w ∧ (BIn w a0 n0 z0 ∧ n0 ≤ c0 ∧ (a0 = none → n0 = 0 ∧ c0 = 0)) ∧ t1.Fits) := ⟨hG, w0, w1⟩
  clear hG w0 w1
  have et : tokV t1 = .agg #[.int .u32 t1.tenant, .int .u32 t1.serial, .bool t1.ro, .int .u64 t1.size] := rfl
  obtain ⟨q, hq⟩ : ∃ q, q = w.heap.size := ⟨_, rfl⟩
  have HQ : Hid (q = w.heap.size) := hq
  by_cases l0 : (400 : Int) < n0
  · rw [et]
    go_enter Tryd.func3, Tryd.ntmps3
    go_upto_region 1 with fail
    generalize hV : World.alloc w _ = V
    rw [← hq]
    have HV : Hid (Below q w V) := by
      show Below q w V
      rw [← hV]
      exact (Below.refl _ _).alloc (by omega) _
    clear hV hq
    go_quiet (fail)
    go_wp2
    go_ret
    exact ⟨rfl, by rw [← HQ.out]; exact below_drewN HV.out _⟩
  · have hl0 : (n0 : Int) ≤ 400 := by omega
    rw [et]
    go_enter Tryd.func3, Tryd.ntmps3
    go_upto_region 1 with fail
    generalize hV : World.alloc w _ = V
    rw [← hq]
    have HV : Hid (Below q w V ∧ GIn V ∧ BIn V a0 n0 z0 ∧ Blk V q (tokL t1) 26) := by
      rw [← hV]
      exact ⟨(Below.refl _ _).alloc (by omega) _, H.out.1.alloc _, H.out.2.1.1.alloc _, Blk.new' (L := tokL t1) hq.symm rfl⟩
    clear hV hq
    have cK := known_grown HV.out.2.1
    have cI := fun (d : Nat) (os : Array Obj) => Calls.regrown_of (passIssue_of a0 n0 c0 z0 t1 (grow (redrawn V d) os) (HV.out.2.1.below (below_regrown _ d os) HV.out.2.1.lt) (HV.out.2.2.1.below (below_regrown _ d os)) (by omega) H.out.2.1.2.1 H.out.2.2)
    have cR := fun (d : Nat) (os : Array Obj) => Calls.regrown_of (refIssue_of a0 n0 c0 z0 t1 (grow (redrawn V d) os) (HV.out.2.2.1.below (below_regrown _ d os)) (by omega) H.out.2.1.2.2 H.out.2.2)
    obtain ⟨s, hs⟩ : ∃ s, s = strOfNums (issueI z0 t1) := ⟨_, rfl⟩
    rw [← hs] at cI cR
    rw [et] at cI cR
    clear et hs
    have e0 := cell_regrown (show V.cell? ⟨q, 0, none⟩ = some (.int .u32 t1.tenant) from HV.out.2.2.2.cell 0)
    have e1 := cell_regrown (show V.cell? ⟨q, 1, none⟩ = some (.int .u32 t1.serial) from HV.out.2.2.2.cell 1)
    have e2 := cell_regrown (show V.cell? ⟨q, 2, none⟩ = some (.bool t1.ro) from HV.out.2.2.2.cell 2)
    have e3 := cell_regrown (show V.cell? ⟨q, 3, none⟩ = some (.int .u64 t1.size) from HV.out.2.2.2.cell 3)
    refine wp_region_quiet_below (by kernel_rfl) (by kernel_rfl) ?_
    iterate 4 (quiet_step (fail))
    quiet_step (exact cK _ _)
    iterate 3 (quiet_step (fail))
    quiet_step (exact cI _ _)
    iterate 2 (quiet_step (fail))
    quiet_step (exact cR _ _)
    iterate 4 (quiet_step (fail))
    refine wpQuiet_nil ?_
    intro _ hw'
    obtain ⟨⟨dq, osq⟩, hw''⟩ := hw'
    subst hw''
    go_wp2
    go_ret
    exact ⟨rfl, by rw [← HQ.out]; exact HV.out.1.trans ((below_regrown _ dq osq).mono (by have := HV.out.1.size; have := HQ.out; omega))⟩

set_option maxRecDepth 100000 in
theorem lifted (os : Os) (started : os.Started) (H : Type) (enc : TypeId × Value → H) :
    ReturnsInHanded {} Tryd.checked os 3 .any (fun w args => (Rows.passIssuesSpec.pre enc Tryd.prog Tryd.f3 [] false w args ∧ laidMetH Tryd.prog laid2 w) ∧ sizedMet enc Tryd.prog Tryd.f3 (OpenSpec.ofChange Rows.passIssuesSpec) false w args)
      (Rows.passIssuesSpec.post enc Tryd.prog Tryd.f3 false true false false) := by
  refine returnsInHanded_of_change_and (C := Tryd.checked) (X := fun w _ => laidMetH Tryd.prog laid2 w) (fun _ _ _ hh h => h.of_heap hh) own started (by kernel_rfl) Tryd.func3
    (ChangeSpec.witness_shaped (enc := enc) (C := Tryd.checked) (os := os) (X := fun w _ => laidMetH Tryd.prog laid2 w) false (World.doorLaid Tryd.prog 400 os) #[.slice none 0 0, .agg #[.int .u32 0, .int .u32 0, .bool false, .int .u64 0]] 8 rfl (World.shaped_of_RefB (by kernel_rfl) (by kernel_rfl)) (by kernel_rfl) (by kernel_rfl) (by kernel_rfl) (door_met os _)) ?_
  intro W base args ds gs before hval0 hW hcnd _ hL _
  have hval : ∀ (j : Nat) t v, Tryd.f3.params[j]? = some t → args[j]? = some v → Value.okWide Tryd.prog W .any base t v := hval0
  have hW' := hW
  obtain ⟨p, q, hA0, hV, rfl, hfz, hnd⟩ := hW
  have hA : DataW.TrodAll enc Tryd.prog W 0 (fun _ => true) true Tryd.f3.params.toList args.toList ds p := hA0
  rw [Tryd.params3] at hA hval
  obtain ⟨v0, vs0, d0, ds0, p0, q0, hargs, rfl, rfl, h0, r0⟩ := trodAll_cons hA
  obtain ⟨v1, vs1, d1, ds1, p1, q1, rfl, rfl, rfl, h1, r1⟩ := trodAll_cons r0
  obtain ⟨rfl, rfl, rfl⟩ := trodAll_nil r1
  obtain rfl : args = #[v0, v1] := by cases args; simp_all
  obtain ⟨rfl, rfl⟩ := trodVars_none hV
  obtain ⟨a0, n0, c0, rfl⟩ := okWide_slice Tryd.underlying22 (hval 0 22 v0 rfl rfl)
  have k0 := h0
  have lt0 : ∀ x ∈ p0, x.block < W.heap.size := by obtain ⟨m, hm⟩ := k0; exact DataW.trod_lt m _ _ _ hm
  obtain ⟨z0, w0⟩ := open_bytes h0
  have k1 := h1
  have lt1 : ∀ x ∈ p1, x.block < W.heap.size := by obtain ⟨m, hm⟩ := k1; exact DataW.trod_lt m _ _ _ hm
  obtain ⟨t1, rfl, w1⟩ := open_token (hval 1 26 v1 rfl rfl) h1
  clear hA0 hval0
  refine (walk a0 n0 c0 z0 t1 W (of_laid hL) w0 w1).mono fun e W' ⟨he, bel⟩ => ?_
  subst he
  exact ⟨_, rfl, _, _, _, [], _, [], hW', trodAll_mk1 (shut_bool Tryd.underlying4 _), (trodAll_cons_mk (Below.trod laidOut (by kernel_rfl) (of_decide_eq_true (by kernel_rfl)) k0 bel lt0) (trodAll_cons_mk (Below.trod laidOut (by kernel_rfl) (of_decide_eq_true (by kernel_rfl)) k1 bel lt1) trodAll_mk0)), rfl, bel.frame _, fun h => by cases h⟩

theorem over : Rows.passIssuesRow.holds Tryd.pinned (OpenSpec.ofChange Rows.passIssuesSpec) :=
  OpenClaim.holds_of_wide 3 Tryd.f3 rfl rfl rfl rfl rfl rfl rfl ⟨rfl, rfl, rfl, rfl, rfl⟩ rfl rfl rfl rfl rfl (by kernel_rfl) Tryd.func3 (by kernel_rfl)
    (of_decide_eq_true (by kernel_rfl)) (by unfold Func.isWrapper; first | (rw [if_pos (by decide +kernel)]; kernel_rfl) | (rw [if_neg (by decide +kernel)]; exact ⟨rfl, rfl⟩))
    (fun os started H enc _ => lifted os started H enc)

theorem said : Rows.PassIssuesSaid := over
end Go.Proofs.YtpliokkmiijieaaDoor.passIssues
namespace Go.Proofs.YtpliokkmiijieaaDoor
/-- The tied card. -/
theorem passIssues_card : Rows.PassIssuesCardSaid :=
  Claim7.holds_tied_plain_at .later [] [.data, .data] true (true, "174549403fd69341d97145101e0688a2ff013689e5871de57477a2bae9234ed5") false
    passIssues.said (fun _ h => by cases h) (by kernel_rfl) (fun _ h => by cases h) passIssues_row_tie rfl ⟨rfl, rfl⟩ (by kernel_rfl) rfl
    (fun f fn hf hfn => by
      obtain rfl : f = 3 := Option.some.inj ((show Tryd.prog.funcNamed "coaming/coaminglaw05.PassIssues" = some 3 by kernel_rfl).symm.trans hf) |>.symm
      obtain rfl : fn = Tryd.f3 := (Option.some.inj (Tryd.func3.symm.trans hfn)).symm
      exact ⟨by kernel_rfl, fun j t ht => by
        rw [Tryd.params3] at ht
        have hm : t ∈ [22,26] := by simpa using Array.mem_of_getElem? ht
        have hall : ([22,26].all fun u => !Tryd.prog.wantsStandIn u) = true := by kernel_rfl
        exact (show Tryd.prog.wantsStandIn t = false by simpa using List.all_eq_true.1 hall t hm)⟩)
    (by kernel_rfl)
#print axioms passIssues_card
end Go.Proofs.YtpliokkmiijieaaDoor
