/- For every two lists of bytes that can be handed in the law MacTags returns true, and the lists read as they did. -/
import Derived.Test.YtakbnecmaccieaaDoorRows
import Derived.Test.YtakbnecmaccieaaDoorCards
import Derived.Test.YtakbnecmaccieaaDoorTie
import Derived.Test.YtakbnecmaccieaaDoorLaid
import Derived.Test.YtakbnecmaccieaaDoorRefOf
import Derived.Stop.Joined
import Derived.SevenTiedAt
import Derived.WalkKit
import Derived.ProofKit
import Derived.OpenShut
import Derived.ShutString
import Derived.ChangeOld
import Derived.Below
namespace Go.Proofs.YtakbnecmaccieaaDoor.macTags
open Go.ChangeShapes Go.WideShapes Go.ChangeAt Go.RowKit
open Go.ChangeMaps (open_string shut_string)
set_option linter.unusedVariables false


/-- WHAT THE WALK IS TOLD OF A SLICE OF INTEGERS THAT CAME IN: it is nil; or it leads to a row of 'cap' cells, the numbers 'zs' (the first 'len' are its elements, the rest its spare room), each fitting its kind. -/
def IsRow (k : IntKind) (w : World) (a : Option Addr) (len cap : Nat) (zs : List Int) : Prop :=
  (a = none ∧ len = 0 ∧ cap = 0 ∧ zs = []) ∨
  ∃ x, a = some x ∧ len ≤ cap ∧ cap ≤ maxLen ∧ zs.length = cap ∧ (∀ i, i < zs.length → w.cell? (x.add i) = some (.int k (zs.getD i 0))) ∧ ∀ n ∈ zs, (Lit.int k n).wf = true

theorem join_one (Y : List Int) : joinN (fun _ => Y) 1 = Y := by simp [joinN]
set_option maxHeartbeats 1000000 in
theorem walk (a0 : Option Addr) (len0 cap0 : Nat) (z0 : List Int) (a1 : Option Addr) (len1 cap1 : Nat) (z1 : List Int) (w : World) (hG : GIn w) (w0 : IsRow .u8 w a0 len0 cap0 z0) (w1 : IsRow .u8 w a1 len1 cap1 z1) :
    Calls Tryd.prog 3 #[.slice a0 len0 cap0, .slice a1 len1 cap1] w fun e w' => e = .returned (.bool true) ∧ Below w.heap.size w w' := by
  obtain ⟨hB0, hc0, hnil0⟩ := row_bin w0
  obtain ⟨hB1, hc1, hnil1⟩ := row_bin w1
  obtain ⟨X, hX⟩ : ∃ X, X = z0.take len0 := ⟨_, rfl⟩
  obtain ⟨Y, hY⟩ : ∃ Y, Y = z1.take len1 := ⟨_, rfl⟩
  rw [← hX] at hB0
  rw [← hY] at hB1
  have H : Hid (GIn w ∧ (BIn w a0 len0 X ∧ len0 ≤ cap0 ∧ (a0 = none → len0 = 0 ∧ cap0 = 0)) ∧ BIn w a1 len1 Y ∧ len1 ≤ cap1 ∧ (a1 = none → len1 = 0 ∧ cap1 = 0)) := ⟨hG, ⟨hB0, hc0, hnil0⟩, hB1, hc1, hnil1⟩
  clear hX hY w0 w1 hG hB0 hB1 hc0 hc1 hnil0 hnil1
  by_cases l0 : (800 : Int) < len0
  · go_enter Tryd.func3, Tryd.ntmps3
    go_wp2
    go_ret
    exact ⟨rfl, Below.refl _ _⟩
  · have hl0 : (len0 : Int) ≤ 800 := by omega
    by_cases l1 : (800 : Int) < len1
    · go_enter Tryd.func3, Tryd.ntmps3
      go_wp2
      go_ret
      exact ⟨rfl, Below.refl _ _⟩
    · have hl1 : (len1 : Int) ≤ 800 := by omega
      have HN : Hid (len0 ≤ 800 ∧ len1 ≤ 800 ∧ ∀ r, r < 1 → ((fun _ => Y : Nat → List Int) r).length ≤ 1000000) := ⟨by omega, by omega, fun r _ => by show Y.length ≤ _; rw [H.out.2.2.1.1]; omega⟩
      obtain ⟨D, hD⟩ : ∃ D, D = ofI X Y := ⟨_, rfl⟩
      have HD : Hid (D = ofI X Y ∧ D.length = 32) := ⟨hD, by rw [hD, ofI_length]⟩
      have hes := fun w => eq_same D HD.out.2 w
      clear hD
      go_enter Tryd.func3, Tryd.ntmps3
      go_wp2_with (first
        | (go_at_call 8; refine (mknown_any _ H.out.1).mono ?_; rintro e W ⟨rfl, bW⟩; have HG : Hid (GIn W ∧ BIn W a0 len0 X ∧ BIn W a1 len1 Y) := ⟨H.out.1.below bW H.out.1.lt, H.out.2.1.1.below bW, H.out.2.2.1.below bW⟩)
        | (go_at_call 9; refine (of_of a0 len0 cap0 X (some ⟨W.heap.size, 0, none⟩) 1 1 (fun _ => Y) _ (HG.out.1.alloc _) (HG.out.2.1.alloc _) (by have := HN.out.1; omega) H.out.2.1.2.1 (one_ps rfl HG.out.2.2 H.out.2.2.2.1 H.out.2.2.2.2) (by omega) HN.out.2.2).mono ?_; rintro e v1 ⟨rfl, b1⟩; rw [join_one, ← HD.out.1]; have bv : Below w.heap.size w v1 := (bW.alloc bW.size _).trans (b1.mono (by have := bW.size; simp; omega)))
        | (go_at_call 10; refine (refOf_of a0 len0 cap0 X a1 len1 cap1 Y v1 (H.out.2.1.1.below bv) H.out.2.1.2.2 (H.out.2.2.1.below bv) H.out.2.2.2.2 (by have := HN.out; omega) (by have := HN.out; omega)).mono ?_; rintro e v2 ⟨rfl, b2⟩; rw [← HD.out.1]))
      go_ret
      exact ⟨rfl, bv.trans (b2.mono bv.size)⟩

set_option maxRecDepth 100000 in
theorem lifted (os : Os) (started : os.Started) (H : Type) (enc : TypeId × Value → H) :
    ReturnsInHanded {} Tryd.checked os 3 .any (fun w args => (Rows.macTagsSpec.pre enc Tryd.prog Tryd.f3 [] false w args ∧ laidMetH Tryd.prog laid2 w) ∧ sizedMet enc Tryd.prog Tryd.f3 (OpenSpec.ofChange Rows.macTagsSpec) false w args)
      (Rows.macTagsSpec.post enc Tryd.prog Tryd.f3 false true false false) := by
  refine returnsInHanded_of_change_and (C := Tryd.checked) (X := fun w _ => laidMetH Tryd.prog laid2 w) (fun _ _ _ hh h => h.of_heap hh) own started (by kernel_rfl) Tryd.func3
    (ChangeSpec.witness_shaped (enc := enc) (C := Tryd.checked) (os := os) (X := fun w _ => laidMetH Tryd.prog laid2 w) false (World.doorLaid Tryd.prog 400 os) #[.slice none 0 0, .slice none 0 0] 8 rfl (World.shaped_of_RefB (by kernel_rfl) (by kernel_rfl)) (by kernel_rfl) (by kernel_rfl) (by kernel_rfl) (door_met os _)) ?_
  intro W base args ds gs before hval0 hW hcnd _ hL _
  have hval : ∀ (j : Nat) t v, Tryd.f3.params[j]? = some t → args[j]? = some v → Value.okWide Tryd.prog W .any base t v := hval0
  have hW' := hW
  obtain ⟨p, q, hA0, hV, rfl, hfz, hnd⟩ := hW
  have hA : DataW.TrodAll enc Tryd.prog W 0 (fun _ => true) true Tryd.f3.params.toList args.toList ds p := hA0
  rw [Tryd.params3] at hA hval
  obtain ⟨v0, vs0, d0, ds0, p0, q0, hargs, rfl, rfl, h0, r0⟩ := trodAll_cons hA
  obtain ⟨v1, vs1, d1, ds1, p1, q1, rfl, rfl, rfl, h1, r1⟩ := trodAll_cons r0
  obtain ⟨rfl, rfl, rfl⟩ := trodAll_nil r1
  obtain rfl : args = #[v0, v1] := by cases args; simp_all
  obtain ⟨rfl, rfl⟩ := trodVars_none hV
  obtain ⟨a0, len0, cap0, rfl⟩ := okWide_slice Tryd.underlying22 (hval 0 22 v0 rfl rfl)
  have k0 := h0
  have lt0 : ∀ x ∈ p0, x.block < W.heap.size := by obtain ⟨m, hm⟩ := k0; exact DataW.trod_lt m _ _ _ hm
  obtain ⟨z0, w0⟩ : ∃ zs, IsRow .u8 W a0 len0 cap0 zs := by
    obtain ⟨fuel, hf⟩ := h0
    rcases open_ints Tryd.underlying22 Tryd.underlying5 (by kernel_rfl) hf with ⟨hcs, _⟩ | ⟨x, l, c, zs, hcs, _, hl, hm, hz, _, hcell, hwz⟩
    · simp [Value.cells] at hcs
      obtain ⟨rfl, rfl, rfl⟩ := hcs
      exact ⟨[], .inl ⟨rfl, rfl, rfl, rfl⟩⟩
    · simp [Value.cells] at hcs
      obtain ⟨rfl, rfl, rfl⟩ := hcs
      exact ⟨zs, .inr ⟨_, rfl, hl, hm, by simpa using hz, hcell, hwz⟩⟩
  obtain ⟨a1, len1, cap1, rfl⟩ := okWide_slice Tryd.underlying22 (hval 1 22 v1 rfl rfl)
  have k1 := h1
  have lt1 : ∀ x ∈ p1, x.block < W.heap.size := by obtain ⟨m, hm⟩ := k1; exact DataW.trod_lt m _ _ _ hm
  obtain ⟨z1, w1⟩ : ∃ zs, IsRow .u8 W a1 len1 cap1 zs := by
    obtain ⟨fuel, hf⟩ := h1
    rcases open_ints Tryd.underlying22 Tryd.underlying5 (by kernel_rfl) hf with ⟨hcs, _⟩ | ⟨x, l, c, zs, hcs, _, hl, hm, hz, _, hcell, hwz⟩
    · simp [Value.cells] at hcs
      obtain ⟨rfl, rfl, rfl⟩ := hcs
      exact ⟨[], .inl ⟨rfl, rfl, rfl, rfl⟩⟩
    · simp [Value.cells] at hcs
      obtain ⟨rfl, rfl, rfl⟩ := hcs
      exact ⟨zs, .inr ⟨_, rfl, hl, hm, by simpa using hz, hcell, hwz⟩⟩
  clear hA0 hval0
  refine (walk a0 len0 cap0 z0 a1 len1 cap1 z1 W (of_laid hL) w0 w1).mono fun e W' ⟨he, bel⟩ => ?_
  subst he
  exact ⟨_, rfl, _, _, _, [], _, [], hW', trodAll_mk1 (shut_bool Tryd.underlying4 _), (trodAll_cons_mk (Below.trod laidOut (by kernel_rfl) (of_decide_eq_true (by kernel_rfl)) k0 bel lt0) (trodAll_cons_mk (Below.trod laidOut (by kernel_rfl) (of_decide_eq_true (by kernel_rfl)) k1 bel lt1) trodAll_mk0)), rfl, bel.frame _, fun h => by cases h⟩

theorem over : Rows.macTagsRow.holds Tryd.pinned (OpenSpec.ofChange Rows.macTagsSpec) :=
  OpenClaim.holds_of_wide 3 Tryd.f3 rfl rfl rfl rfl rfl rfl rfl ⟨rfl, rfl, rfl, rfl, rfl⟩ rfl rfl rfl rfl rfl (by kernel_rfl) Tryd.func3 (by kernel_rfl)
    (of_decide_eq_true (by kernel_rfl)) (by unfold Func.isWrapper; first | (rw [if_pos (by decide +kernel)]; kernel_rfl) | (rw [if_neg (by decide +kernel)]; exact ⟨rfl, rfl⟩))
    (fun os started H enc _ => lifted os started H enc)

theorem said : Rows.MacTagsSaid := over
end Go.Proofs.YtakbnecmaccieaaDoor.macTags
namespace Go.Proofs.YtakbnecmaccieaaDoor
/-- The tied card. -/
theorem macTags_card : Rows.MacTagsCardSaid :=
  Claim7.holds_tied_plain_at .later [] [.data, .data] true (true, "ec37803ce0c76b2e91dc930df1b1b4d433909658e8f2fe1d19451ce5ea3400a0") false
    macTags.said (fun _ h => by cases h) (by kernel_rfl) (fun _ h => by cases h) macTags_row_tie rfl ⟨rfl, rfl⟩ (by kernel_rfl) rfl
    (fun f fn hf hfn => by
      obtain rfl : f = 3 := Option.some.inj ((show Tryd.prog.funcNamed "coaming/coaminglaw03.MacTags" = some 3 by kernel_rfl).symm.trans hf) |>.symm
      obtain rfl : fn = Tryd.f3 := (Option.some.inj (Tryd.func3.symm.trans hfn)).symm
      exact ⟨by kernel_rfl, fun j t ht => by
        rw [Tryd.params3] at ht
        have hm : t ∈ [22,22] := by simpa using Array.mem_of_getElem? ht
        have hall : ([22,22].all fun u => !Tryd.prog.wantsStandIn u) = true := by kernel_rfl
        exact (show Tryd.prog.wantsStandIn t = false by simpa using List.all_eq_true.1 hall t hm)⟩)
    (by kernel_rfl)
#print axioms macTags_card
end Go.Proofs.YtakbnecmaccieaaDoor
