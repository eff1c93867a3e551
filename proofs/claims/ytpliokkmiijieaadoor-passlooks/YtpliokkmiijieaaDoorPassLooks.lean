/- For every text that can be handed in the law PassLooks returns true. -/
import Derived.Test.YtpliokkmiijieaaDoorRows
import Derived.Test.YtpliokkmiijieaaDoorCards
import Derived.Test.YtpliokkmiijieaaDoorTie
import Derived.Test.YtpliokkmiijieaaDoorLaid
import Derived.Test.YtpliokkmiijieaaDoorPOpen
import Derived.Test.YtpliokkmiijieaaDoorPRef
import Derived.Test.YtpliokkmiijieaaDoorPKnown
import Derived.Stop.Joined
import Derived.SevenTiedAt
import Derived.WalkKit
import Derived.ProofKit
import Derived.OpenShut
import Derived.ShutString
import Derived.ChangeOld
import Derived.Below
namespace Go.Proofs.YtpliokkmiijieaaDoor.passLooks
open Go.ChangeShapes Go.WideShapes Go.ChangeAt Go.RowKit
open Go.ChangeMaps (open_string shut_string)
set_option linter.unusedVariables false
set_option maxRecDepth 4000

set_option maxHeartbeats 1000000 in
theorem walk (a0 : ByteArray) (w : World) (hG : GIn w) (w0 : a0.size ≤ maxLen) :
    Calls Tryd.prog 4 #[.string a0] w fun e w' => e = .returned (.bool true) ∧ Below w.heap.size w w' := by
  obtain ⟨q, hq⟩ : ∃ q, q = w.heap.size := ⟨_, rfl⟩
  have H : Hid (q = w.heap.size ∧ GIn w) := ⟨hq, hG⟩
  rw [← hq]
  clear hG w0 hq
  by_cases l0 : (400 : Int) < a0.size
  · go_enter Tryd.func4, Tryd.ntmps4
    go_wp2
    go_ret
    exact ⟨rfl, Below.refl _ _⟩
  · have hl0 : (a0.size : Int) ≤ 400 := by omega
    have L1 := passLook_of a0 (numsOf a0) a0.size w (numsOf_str a0) (numsOf_fits a0) (numsOf_length a0) (by omega)
    have L2 := fun w => refLook_of a0 (numsOf a0) a0.size w (numsOf_str a0) (numsOf_fits a0) (numsOf_length a0) (by omega)
    obtain ⟨K, hK⟩ : ∃ K, K = lookI (numsOf a0) := ⟨_, rfl⟩
    obtain ⟨E, hE⟩ : ∃ E, E = lookE (numsOf a0) := ⟨_, rfl⟩
    rw [← hK, ← hE] at L1
    rw [← hK, ← hE] at L2
    have hE0 : 0 ≤ E ∧ E ≤ 50 := by rw [hE]; unfold lookE; split <;> omega
    obtain ⟨hE1, hE2⟩ := hE0
    clear hK hE
    go_enter Tryd.func4, Tryd.ntmps4
    go_upto_region 4 with (first
      | (go_at_call 12; refine L1.mono ?_; rintro e w1 ⟨rfl, b1⟩)
      | (refine wpList_store_mid rfl 26 (.tmp 3) (.tmp 13) rfl w1.heap.size 0 (tokL K).toArray rfl rfl ?hT (tok_size _) (tok_all _) ?_; (case hT => exact tok_there _)))
    generalize hU : World.setCells _ _ _ _ = U
    obtain ⟨g, hg⟩ : ∃ g, g = w1.heap.size := ⟨_, rfl⟩
    rw [← hg]
    have HU : Hid (Blk U g (tokL K) 26 ∧ Below q w U ∧ g < U.heap.size ∧ q ≤ U.heap.size) := by
      have h1 := b1.size
      have hq := H.out.1
      have bk : Blk U g (tokL K) 26 := by rw [← hU, hg]; exact (Blk.new' (L := tokL tok0) rfl rfl).setAll (by rfl)
      have bu : Below w1.heap.size w1 U := by rw [← hU]; exact below_setCells (Nat.le_refl _) _ _ _ ((Below.refl _ _).alloc (Nat.le_refl _) _)
      exact ⟨bk, by rw [hq]; exact b1.trans (bu.mono h1), bk.lt, by have := bu.size; omega⟩
    clear hU hg b1 L1
    go_upto_region 5 with (first
      | (go_at_call 13; refine (L2 U).mono ?_; rintro e w2 ⟨rfl, b2⟩)
      | (refine wpList_store_mid rfl 26 (.tmp 5) (.tmp 18) rfl w2.heap.size 0 (tokL K).toArray rfl rfl ?hT (tok_size _) (tok_all _) ?_; (case hT => exact tok_there _)))
    generalize hV : World.setCells _ _ _ _ = V
    obtain ⟨g5, hg5⟩ : ∃ g5, g5 = w2.heap.size := ⟨_, rfl⟩
    rw [← hg5]
    have HV : Hid (Blk V g (tokL K) 26 ∧ Blk V g5 (tokL K) 26 ∧ Below q w V ∧ q ≤ V.heap.size ∧ GIn V) := by
      have h1 := b2.size
      have bk : Blk V g5 (tokL K) 26 := by rw [← hV, hg5]; exact (Blk.new' (L := tokL tok0) rfl rfl).setAll (by rfl)
      have bv : Below w2.heap.size w2 V := by rw [← hV]; exact below_setCells (Nat.le_refl _) _ _ _ ((Below.refl _ _).alloc (Nat.le_refl _) _)
      have bb : Below U.heap.size U V := b2.trans (bv.mono h1)
      have bq : Below q w V := HU.out.2.1.trans (bb.mono HU.out.2.2.2)
      exact ⟨HU.out.1.below bb HU.out.2.2.1, bk, bq, by have := bb.size; have := HU.out.2.2.2; omega, H.out.2.below (B := w.heap.size) (by rw [← H.out.1]; exact bq) H.out.2.lt⟩
    clear hV hg5 b2 L2 HU
    go_wp2_with (go_at_call 9; refine (pknown_any V HV.out.2.2.2.2).mono ?_; rintro e X ⟨rfl, bX⟩; have x0 := HV.out.1.below bX HV.out.1.lt; have x1 := HV.out.2.1.below bX HV.out.2.1.lt; have y0 : X.cell? ⟨g, 0, none⟩ = some (.int .u32 K.tenant) := x0.cell 0; have y1 : X.cell? ⟨g, 1, none⟩ = some (.int .u32 K.serial) := x0.cell 1; have y2 : X.cell? ⟨g, 2, none⟩ = some (.bool K.ro) := x0.cell 2; have y3 : X.cell? ⟨g, 3, none⟩ = some (.int .u64 K.size) := x0.cell 3; have z0 : X.cell? ⟨g5, 0, none⟩ = some (.int .u32 K.tenant) := x1.cell 0; have z1 : X.cell? ⟨g5, 1, none⟩ = some (.int .u32 K.serial) := x1.cell 1; have z2 : X.cell? ⟨g5, 2, none⟩ = some (.bool K.ro) := x1.cell 2; have z3 : X.cell? ⟨g5, 3, none⟩ = some (.int .u64 K.size) := x1.cell 3; clear x0 x1)
    go_ret
    exact ⟨rfl, HV.out.2.2.1.trans (bX.mono HV.out.2.2.2.1)⟩

set_option maxRecDepth 100000 in
theorem lifted (os : Os) (started : os.Started) (H : Type) (enc : TypeId × Value → H) :
    ReturnsInHanded {} Tryd.checked os 4 .any (fun w args => (Rows.passLooksSpec.pre enc Tryd.prog Tryd.f4 [] false w args ∧ laidMetH Tryd.prog laid2 w) ∧ sizedMet enc Tryd.prog Tryd.f4 (OpenSpec.ofChange Rows.passLooksSpec) false w args)
      (Rows.passLooksSpec.post enc Tryd.prog Tryd.f4 false true false false) := by
  refine returnsInHanded_of_change_and (C := Tryd.checked) (X := fun w _ => laidMetH Tryd.prog laid2 w) (fun _ _ _ hh h => h.of_heap hh) own started (by kernel_rfl) Tryd.func4
    (ChangeSpec.witness_shaped (enc := enc) (C := Tryd.checked) (os := os) (X := fun w _ => laidMetH Tryd.prog laid2 w) false (World.doorLaid Tryd.prog 400 os) #[.string ByteArray.empty] 8 rfl (World.shaped_of_RefB (by kernel_rfl) (by kernel_rfl)) (by kernel_rfl) (by kernel_rfl) (by kernel_rfl) (door_met os _)) ?_
  intro W base args ds gs before hval0 hW hcnd _ hL _
  have hval : ∀ (j : Nat) t v, Tryd.f4.params[j]? = some t → args[j]? = some v → Value.okWide Tryd.prog W .any base t v := hval0
  have hW' := hW
  obtain ⟨p, q, hA0, hV, rfl, hfz, hnd⟩ := hW
  have hA : DataW.TrodAll enc Tryd.prog W 0 (fun _ => true) true Tryd.f4.params.toList args.toList ds p := hA0
  rw [Tryd.params4] at hA hval
  obtain ⟨v0, vs0, d0, ds0, p0, q0, hargs, rfl, rfl, h0, r0⟩ := trodAll_cons hA
  obtain ⟨rfl, rfl, rfl⟩ := trodAll_nil r0
  obtain rfl : args = #[v0] := by cases args; simp_all
  obtain ⟨rfl, rfl⟩ := trodVars_none hV
  obtain ⟨a0, rfl, rfl, rfl, w0⟩ := open_string Tryd.underlying9 (hval 0 9 v0 rfl rfl) h0
  clear hA0 hval0
  refine (walk a0 W (of_laid hL) w0).mono fun e W' ⟨he, bel⟩ => ?_
  subst he
  exact ⟨_, rfl, _, _, _, [], _, [], hW', trodAll_mk1 (shut_bool Tryd.underlying4 _), (trodAll_cons_mk (shut_string Tryd.underlying9 w0) trodAll_mk0), rfl, bel.frame _, fun h => by cases h⟩

theorem over : Rows.passLooksRow.holds Tryd.pinned (OpenSpec.ofChange Rows.passLooksSpec) :=
  OpenClaim.holds_of_wide 4 Tryd.f4 rfl rfl rfl rfl rfl rfl rfl ⟨rfl, rfl, rfl, rfl, rfl⟩ rfl rfl rfl rfl rfl (by kernel_rfl) Tryd.func4 (by kernel_rfl)
    (of_decide_eq_true (by kernel_rfl)) (by unfold Func.isWrapper; first | (rw [if_pos (by decide +kernel)]; kernel_rfl) | (rw [if_neg (by decide +kernel)]; exact ⟨rfl, rfl⟩))
    (fun os started H enc _ => lifted os started H enc)

theorem said : Rows.PassLooksSaid := over
end Go.Proofs.YtpliokkmiijieaaDoor.passLooks
namespace Go.Proofs.YtpliokkmiijieaaDoor
/-- The tied card. -/
theorem passLooks_card : Rows.PassLooksCardSaid :=
  Claim7.holds_tied_plain_at .later [] [.data, .data] true (true, "174549403fd69341d97145101e0688a2ff013689e5871de57477a2bae9234ed5") false
    passLooks.said (fun _ h => by cases h) (by kernel_rfl) (fun _ h => by cases h) passLooks_row_tie rfl ⟨rfl, rfl⟩ (by kernel_rfl) rfl
    (fun f fn hf hfn => by
      obtain rfl : f = 4 := Option.some.inj ((show Tryd.prog.funcNamed "coaming/coaminglaw05.PassLooks" = some 4 by kernel_rfl).symm.trans hf) |>.symm
      obtain rfl : fn = Tryd.f4 := (Option.some.inj (Tryd.func4.symm.trans hfn)).symm
      exact ⟨by kernel_rfl, fun j t ht => by
        rw [Tryd.params4] at ht
        have hm : t ∈ [9] := by simpa using Array.mem_of_getElem? ht
        have hall : ([9].all fun u => !Tryd.prog.wantsStandIn u) = true := by kernel_rfl
        exact (show Tryd.prog.wantsStandIn t = false by simpa using List.all_eq_true.1 hall t hm)⟩)
    (by kernel_rfl)
#print axioms passLooks_card
end Go.Proofs.YtpliokkmiijieaaDoor
