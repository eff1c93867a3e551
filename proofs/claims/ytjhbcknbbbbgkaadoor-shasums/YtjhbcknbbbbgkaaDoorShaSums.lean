/- For every list of bytes that can be handed in the law ShaSums returns true: the program's digest is the document's, and the list stays; and the list reads as it did. -/
import Derived.Test.YtjhbcknbbbbgkaaDoorRows
import Derived.Test.YtjhbcknbbbbgkaaDoorCards
import Derived.Test.YtjhbcknbbbbgkaaDoorTie
import Derived.Test.YtjhbcknbbbbgkaaDoorLaid
import Derived.Test.YtjhbcknbbbbgkaaDoorSame
import Derived.Test.YtjhbcknbbbbgkaaDoorApp
import Derived.Test.YtjhbcknbbbbgkaaDoorEqual
import Derived.Test.YtjhbcknbbbbgkaaDoorStr
import Derived.Stop.Joined
import Derived.SevenTiedAt
import Derived.WalkKit
import Derived.ProofKit
import Derived.OpenShut
import Derived.ShutString
import Derived.ChangeOld
import Derived.Below
namespace Go.Proofs.YtjhbcknbbbbgkaaDoor.shaSums
open Go.ChangeShapes Go.WideShapes Go.ChangeAt Go.RowKit
open Go.ChangeMaps (open_string shut_string)
set_option linter.unusedVariables false


/-- WHAT THE WALK IS TOLD OF A SLICE OF INTEGERS THAT CAME IN: it is nil; or it leads to a row of 'cap' cells, the numbers 'zs' (the first 'len' are its elements, the rest its spare room), each fitting its kind. -/
def IsRow (k : IntKind) (w : World) (a : Option Addr) (len cap : Nat) (zs : List Int) : Prop :=
  (a = none ∧ len = 0 ∧ cap = 0 ∧ zs = []) ∨
  ∃ x, a = some x ∧ len ≤ cap ∧ cap ≤ maxLen ∧ zs.length = cap ∧ (∀ i, i < zs.length → w.cell? (x.add i) = some (.int k (zs.getD i 0))) ∧ ∀ n ∈ zs, (Lit.int k n).wf = true

theorem walk (a0 : Option Addr) (len0 cap0 : Nat) (z0 : List Int) (w : World) (hG : GIn w) (w0 : IsRow .u8 w a0 len0 cap0 z0) :
    Calls Tryd.prog 3 #[.slice a0 len0 cap0] w fun e w' => e = .returned (.bool true) ∧ Below w.heap.size w w' := by
  obtain ⟨hB, hc, hnil⟩ := row_bin w0
  obtain ⟨Z, hZ⟩ : ∃ Z, Z = z0.take len0 := ⟨_, rfl⟩
  rw [← hZ] at hB
  have H : Hid (GIn w ∧ BIn w a0 len0 Z ∧ len0 ≤ cap0 ∧ (a0 = none → len0 = 0 ∧ cap0 = 0)) := ⟨hG, hB, hc, hnil⟩
  clear hZ w0 hG hB hc hnil
  by_cases l0 : (1200 : Int) < len0
  · go_enter Tryd.func3, Tryd.ntmps3
    go_wp2_with (go_at_call 7; refine (known_any _ H.out.1).mono ?_; rintro e W ⟨rfl, b⟩)
    go_ret
    exact ⟨rfl, b⟩
  · have hl0 : (len0 : Int) ≤ 1200 := by omega
    go_enter Tryd.func3, Tryd.ntmps3
    go_upto_region 3 with (go_at_call 7; refine (known_any _ H.out.1).mono ?_; rintro e W ⟨rfl, bW⟩)
    have HG : Hid (GIn W ∧ BIn W a0 len0 Z) := ⟨H.out.1.below bW H.out.1.lt, H.out.2.1.below bW⟩
    go_upto_region 5 with (at_builtin; refine wpList_append_bin rfl (.tmp 12) (.tmp 13) rfl W.heap.size none 0 0 [] rfl (World.ownsRow_nil _ _ _ _) a0 len0 cap0 Z rfl HG.out.2 H.out.2.2.2 (by omega) (Nat.le_refl _) ?_; intro A C u1 ow1 bu1; simp only [Nat.zero_add, List.nil_append] at ow1 ⊢)
    have HU : Hid (GIn u1 ∧ BIn u1 a0 len0 Z ∧ BIn u1 A len0 Z ∧ len0 ≤ C ∧ Below w.heap.size w u1) :=
      ⟨HG.out.1.below bu1 HG.out.1.lt, HG.out.2.below bu1, own_bin ow1 (by unfold maxLen; omega) H.out.2.1.2.2.1, own_cap ow1, bW.trans (bu1.mono bW.size)⟩
    clear ow1 bu1 bW
    have hes := sum_same (takeI st0 Z)
    go_wp2_with (first
      | (go_at_call 8; refine (sum_of A len0 C Z u1 HU.out.1 HU.out.2.2.1 (by omega) HU.out.2.2.2.1).mono ?_; rintro e u2 ⟨rfl, b2⟩)
      | (go_at_call 9; refine (refsum_of a0 len0 cap0 Z u2 (HU.out.2.1.below b2) H.out.2.2.2 (by omega)).mono ?_; rintro e u3 ⟨rfl, b3⟩; rw [digest_eq H.out.2.1.1 H.out.2.1.2.2.1]; have e1 := str_of u3 A len0 C Z ((HU.out.2.2.1.below b2).below b3); have e2 := str_of u3 a0 len0 cap0 Z ((HU.out.2.1.below b2).below b3)))
    go_ret
    refine ⟨rfl, HU.out.2.2.2.2.trans ((b2.mono HU.out.2.2.2.2.size).trans (b3.mono ?_))⟩
    have h1 := HU.out.2.2.2.2.size
    have h2 := b2.size
    omega

set_option maxRecDepth 100000 in
theorem lifted (os : Os) (started : os.Started) (H : Type) (enc : TypeId × Value → H) :
    ReturnsInHanded {} Tryd.checked os 3 .any (fun w args => (Rows.shaSumsSpec.pre enc Tryd.prog Tryd.f3 [] false w args ∧ laidMetH Tryd.prog laid2 w) ∧ sizedMet enc Tryd.prog Tryd.f3 (OpenSpec.ofChange Rows.shaSumsSpec) false w args)
      (Rows.shaSumsSpec.post enc Tryd.prog Tryd.f3 false true false false) := by
  refine returnsInHanded_of_change_and (C := Tryd.checked) (X := fun w _ => laidMetH Tryd.prog laid2 w) (fun _ _ _ hh h => h.of_heap hh) own started (by kernel_rfl) Tryd.func3
    (ChangeSpec.witness_shaped (enc := enc) (C := Tryd.checked) (os := os) (X := fun w _ => laidMetH Tryd.prog laid2 w) false (World.doorLaid Tryd.prog 400 os) #[.slice none 0 0] 8 rfl (World.shaped_of_RefB (by kernel_rfl) (by kernel_rfl)) (by kernel_rfl) (by kernel_rfl) (by kernel_rfl) (door_met os _)) ?_
  intro W base args ds gs before hval0 hW hcnd _ hL _
  have hval : ∀ (j : Nat) t v, Tryd.f3.params[j]? = some t → args[j]? = some v → Value.okWide Tryd.prog W .any base t v := hval0
  have hW' := hW
  obtain ⟨p, q, hA0, hV, rfl, hfz, hnd⟩ := hW
  have hA : DataW.TrodAll enc Tryd.prog W 0 (fun _ => true) true Tryd.f3.params.toList args.toList ds p := hA0
  rw [Tryd.params3] at hA hval
  obtain ⟨v0, vs0, d0, ds0, p0, q0, hargs, rfl, rfl, h0, r0⟩ := trodAll_cons hA
  obtain ⟨rfl, rfl, rfl⟩ := trodAll_nil r0
  obtain rfl : args = #[v0] := by cases args; simp_all
  obtain ⟨rfl, rfl⟩ := trodVars_none hV
  obtain ⟨a0, len0, cap0, rfl⟩ := okWide_slice Tryd.underlying22 (hval 0 22 v0 rfl rfl)
  have k0 := h0
  have lt0 : ∀ x ∈ p0, x.block < W.heap.size := by obtain ⟨m, hm⟩ := k0; exact DataW.trod_lt m _ _ _ hm
  obtain ⟨z0, w0⟩ : ∃ zs, IsRow .u8 W a0 len0 cap0 zs := by
    obtain ⟨fuel, hf⟩ := h0
    rcases open_ints Tryd.underlying22 Tryd.underlying5 (by kernel_rfl) hf with ⟨hcs, _⟩ | ⟨x, l, c, zs, hcs, _, hl, hm, hz, _, hcell, hwz⟩
    · simp [Value.cells] at hcs
      obtain ⟨rfl, rfl, rfl⟩ := hcs
      exact ⟨[], .inl ⟨rfl, rfl, rfl, rfl⟩⟩
    · simp [Value.cells] at hcs
      obtain ⟨rfl, rfl, rfl⟩ := hcs
      exact ⟨zs, .inr ⟨_, rfl, hl, hm, by simpa using hz, hcell, hwz⟩⟩
  clear hA0 hval0
  refine (walk a0 len0 cap0 z0 W (of_laid hL) w0).mono fun e W' ⟨he, bel⟩ => ?_
  subst he
  exact ⟨_, rfl, _, _, _, [], _, [], hW', trodAll_mk1 (shut_bool Tryd.underlying4 _), (trodAll_cons_mk (Below.trod laidOut (by kernel_rfl) (of_decide_eq_true (by kernel_rfl)) k0 bel lt0) trodAll_mk0), rfl, bel.frame _, fun h => by cases h⟩

theorem over : Rows.shaSumsRow.holds Tryd.pinned (OpenSpec.ofChange Rows.shaSumsSpec) :=
  OpenClaim.holds_of_wide 3 Tryd.f3 rfl rfl rfl rfl rfl rfl rfl ⟨rfl, rfl, rfl, rfl, rfl⟩ rfl rfl rfl rfl rfl (by kernel_rfl) Tryd.func3 (by kernel_rfl)
    (of_decide_eq_true (by kernel_rfl)) (by unfold Func.isWrapper; first | (rw [if_pos (by decide +kernel)]; kernel_rfl) | (rw [if_neg (by decide +kernel)]; exact ⟨rfl, rfl⟩))
    (fun os started H enc _ => lifted os started H enc)

theorem said : Rows.ShaSumsSaid := over
end Go.Proofs.YtjhbcknbbbbgkaaDoor.shaSums
namespace Go.Proofs.YtjhbcknbbbbgkaaDoor
/-- The tied card. -/
theorem shaSums_card : Rows.ShaSumsCardSaid :=
  Claim7.holds_tied_plain_at .later [] [.data, .data] true (true, "4a458099d0066d3635fa7948cc792fe0ce29d52b8a17ca1574f688b5700ba112") false
    shaSums.said (fun _ h => by cases h) (by kernel_rfl) (fun _ h => by cases h) shaSums_row_tie rfl ⟨rfl, rfl⟩ (by kernel_rfl) rfl
    (fun f fn hf hfn => by
      obtain rfl : f = 3 := Option.some.inj ((show Tryd.prog.funcNamed "coaming/coaminglaw02.ShaSums" = some 3 by kernel_rfl).symm.trans hf) |>.symm
      obtain rfl : fn = Tryd.f3 := (Option.some.inj (Tryd.func3.symm.trans hfn)).symm
      exact ⟨by kernel_rfl, fun j t ht => by
        rw [Tryd.params3] at ht
        have hm : t ∈ [22] := by simpa using Array.mem_of_getElem? ht
        have hall : ([22].all fun u => !Tryd.prog.wantsStandIn u) = true := by kernel_rfl
        exact (show Tryd.prog.wantsStandIn t = false by simpa using List.all_eq_true.1 hall t hm)⟩)
    (by kernel_rfl)
#print axioms shaSums_card
end Go.Proofs.YtjhbcknbbbbgkaaDoor
