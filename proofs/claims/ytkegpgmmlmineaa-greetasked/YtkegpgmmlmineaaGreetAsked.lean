/- Asked of any bytes is what the chapter says. -/
import Derived.Test.YtkegpgmmlmineaaRows
import Derived.Test.YtkegpgmmlmineaaGKnown
import Derived.WalkKit
import Derived.ProofKit
import Derived.OpenShut
import Derived.ShutString
import Derived.ChangeOld
import Derived.Below
namespace Go.Proofs.Ytkegpgmmlmineaa.greetAsked
open Go.ChangeShapes Go.WideShapes Go.ChangeAt Go.RowKit
open Go.ChangeMaps (open_string shut_string)
set_option linter.unusedVariables false

theorem own : ownKnob Try.prog.godebug = none := by kernel_rfl
theorem laidOut : laidOutB Try.prog = true := by kernel_rfl

/-- WHAT THE WALK IS TOLD OF A SLICE OF INTEGERS THAT CAME IN: it is nil; or it leads to a row of 'cap' cells, the numbers 'zs' (the first 'len' are its elements, the rest its spare room), each fitting its kind. -/
def IsRow (k : IntKind) (w : World) (a : Option Addr) (len cap : Nat) (zs : List Int) : Prop :=
  (a = none ∧ len = 0 ∧ cap = 0 ∧ zs = []) ∨
  ∃ x, a = some x ∧ len ≤ cap ∧ cap ≤ maxLen ∧ zs.length = cap ∧ (∀ i, i < zs.length → w.cell? (x.add i) = some (.int k (zs.getD i 0))) ∧ ∀ n ∈ zs, (Lit.int k n).wf = true

set_option maxHeartbeats 2000000 in
theorem walk (a0 : Option Addr) (len0 cap0 : Nat) (z0 : List Int) (w : World) (w0 : IsRow .u8 w a0 len0 cap0 z0) :
    Calls Try.prog 4 #[.slice a0 len0 cap0] w fun e w' => e = .returned (.bool true) ∧ Below w.heap.size w w' := by
  obtain ⟨hx, hxc, hxn⟩ := row_nin w0
  obtain ⟨X, eX⟩ : ∃ X, X = z0.take len0 := ⟨_, rfl⟩
  rw [← eX] at hx
  have H : Hid (BIn w a0 len0 X ∧ len0 ≤ cap0 ∧ (a0 = none → len0 = 0 ∧ cap0 = 0)) := ⟨hx.b, hxc, hxn⟩
  clear hx eX w0 hxc hxn
  by_cases h1 : (3000 : Int) < len0
  · go_enter Try.func4, Try.ntmps4
    go_wp2
    go_ret
    exact ⟨rfl, Below.refl _ _⟩
  have n1 : len0 ≤ 3000 := by omega
  have HN : Hid (len0 ≤ 3000) := n1
  obtain ⟨S, hS⟩ : ∃ S, S = strOfNums (askS X) := ⟨_, rfl⟩
  obtain ⟨E, hE⟩ : ∃ E, E = askE X := ⟨_, rfl⟩
  obtain ⟨L, hL⟩ : ∃ L, L = askL X := ⟨_, rfl⟩
  have bE : 0 ≤ E ∧ E ≤ 74 := by rw [hE]; unfold askE; split <;> omega
  have hLl : L.length ≤ 3000 := by rw [hL]; have := askL_len X; have := H.out.1.1; omega
  obtain ⟨bE0, bE1⟩ := bE
  have HL : Hid (S = strOfNums (askS X) ∧ E = askE X ∧ L = askL X ∧ L.length ≤ 3000) := ⟨hS, hE, hL, hLl⟩
  clear hS hE hL hLl
  go_enter Try.func4, Try.ntmps4
  go_wp2_with fail
  refine (asked_of a0 len0 cap0 X w H.out.1 H.out.2.2 H.out.2.1 (by have := HN.out; omega)).mono ?_
  rw [← HL.out.1, ← HL.out.2.1, ← HL.out.2.2.1]
  rintro e w1 ⟨A1, k1, C1, rfl, d1, b1⟩
  have B1 : Hid (NIn .u16 w1 A1 k1 L ∧ Below w.heap.size w w1) := ⟨d1, b1⟩
  clear d1 b1
  go_wp2_with fail
  refine (refAsked_of a0 len0 cap0 X w1 (H.out.1.below B1.out.2) H.out.2.2 H.out.2.1 (by have := HN.out; omega)).mono ?_
  rw [← HL.out.1, ← HL.out.2.1, ← HL.out.2.2.1]
  rintro e w2 ⟨A2, k2, C2, rfl, d2, b2⟩
  have hk : k2 = k1 := by rw [← d2.1, B1.out.1.1]
  subst hk
  have B2 : Hid (NIn .u16 w2 A1 k2 L ∧ NIn .u16 w2 A2 k2 L ∧ Below w.heap.size w w2) := ⟨B1.out.1.below b2, d2, B1.out.2.trans (b2.mono B1.out.2.size)⟩
  have hk3 : k2 ≤ 3000 := by rw [← d2.1]; exact HL.out.2.2.2
  clear d2 b2
  go_wp2
  go_loopw [9] (fun i wr => ∃ (j d : Nat), j ≤ k2 ∧ i = .int .i64 j ∧ wr = w2.drewN d)
    (fun i _ => k2 - (intOf i).toNat)
  case atStart => exact ⟨0, 0, by omega, rfl, rfl⟩
  case round =>
    obtain ⟨j, d, hj, rfl, rfl⟩ := hrel
    by_cases hlt : j < k2
    · have hlt' : (j : Int) < k2 := by omega
      obtain ⟨b1, o1, rfl, hc1⟩ := B2.out.1.2.2.2.resolve_left (by omega)
      obtain ⟨b2, o2, rfl, hc2⟩ := B2.out.2.1.2.2.2.resolve_left (by omega)
      have c1 := hc1 j hlt
      have c2 := hc2 j hlt
      obtain ⟨x, ex⟩ : ∃ x, x = L.getD j 0 := ⟨_, rfl⟩
      rw [← ex] at c1 c2
      clear hc1 hc2 ex
      go_wp2
      go_quiet (fail)
      go_wp2
      go_roundw
      case rel => exact ⟨j + 1, _, by omega, by go_num, rfl⟩
      case measure => simp [intOf]; omega
    · have hge : (k2 : Int) ≤ j := by omega
      go_wp2_with fail
      refine (gknown_any _).mono ?_
      rintro e w8 ⟨rfl, b8⟩
      have B8 : Hid (Below w.heap.size w w8) := (below_drewN B2.out.2.2 d).trans (b8.mono B2.out.2.2.size)
      clear b8
      go_wp2
      go_ret
      exact ⟨rfl, B8.out⟩

set_option maxRecDepth 100000 in
theorem lifted (os : Os) (started : os.Started) (H : Type) (enc : TypeId × Value → H) :
    ReturnsInHanded {} Try.checked os 4 .any (Rows.greetAskedSpec.pre6 enc Try.prog Try.f4 Rows.greetAskedRow.domain false) (Rows.greetAskedSpec.post enc Try.prog Try.f4 false true false false) := by
  refine returnsInHanded_of_change (C := Try.checked) own started (by kernel_rfl) Try.func4
    (ChangeSpec.witness6 (enc := enc) (C := Try.checked) false ⟨#[], #[.slice none 0 0], []⟩ 8 (by kernel_rfl) (by kernel_rfl) (by kernel_rfl) (by kernel_rfl)) ?_
  intro W base args ds gs before hval0 hW hcnd _
  have hval : ∀ (j : Nat) t v, Try.f4.params[j]? = some t → args[j]? = some v → Value.okWide Try.prog W .any base t v := hval0
  have hW' := hW
  obtain ⟨p, q, hA0, hV, rfl, hfz, hnd⟩ := hW
  have hA : DataW.TrodAll enc Try.prog W 0 (fun _ => true) true Try.f4.params.toList args.toList ds p := hA0
  rw [Try.params4] at hA hval
  obtain ⟨v0, vs0, d0, ds0, p0, q0, hargs, rfl, rfl, h0, r0⟩ := trodAll_cons hA
  obtain ⟨rfl, rfl, rfl⟩ := trodAll_nil r0
  obtain rfl : args = #[v0] := by cases args; simp_all
  obtain ⟨rfl, rfl⟩ := trodVars_none hV
  obtain ⟨a0, len0, cap0, rfl⟩ := okWide_slice Try.underlying22 (hval 0 22 v0 rfl rfl)
  have k0 := h0
  have lt0 : ∀ x ∈ p0, x.block < W.heap.size := by obtain ⟨m, hm⟩ := k0; exact DataW.trod_lt m _ _ _ hm
  obtain ⟨z0, w0⟩ : ∃ zs, IsRow .u8 W a0 len0 cap0 zs := by
    obtain ⟨fuel, hf⟩ := h0
    rcases open_ints Try.underlying22 Try.underlying5 (by kernel_rfl) hf with ⟨hcs, _⟩ | ⟨x, l, c, zs, hcs, _, hl, hm, hz, _, hcell, hwz⟩
    · simp [Value.cells] at hcs
      obtain ⟨rfl, rfl, rfl⟩ := hcs
      exact ⟨[], .inl ⟨rfl, rfl, rfl, rfl⟩⟩
    · simp [Value.cells] at hcs
      obtain ⟨rfl, rfl, rfl⟩ := hcs
      exact ⟨zs, .inr ⟨_, rfl, hl, hm, by simpa using hz, hcell, hwz⟩⟩
  clear hA0 hval0
  refine (walk a0 len0 cap0 z0 W w0).mono fun e W' ⟨he, bel⟩ => ?_
  subst he
  exact ⟨_, rfl, _, _, _, [], _, [], hW', trodAll_mk1 (shut_bool Try.underlying4 _), (trodAll_cons_mk (Below.trod laidOut (by kernel_rfl) (of_decide_eq_true (by kernel_rfl)) k0 bel lt0) trodAll_mk0), rfl, bel.frame _, fun h => by cases h⟩

theorem over : Rows.greetAskedRow.holds Try.pinned (OpenSpec.ofChange Rows.greetAskedSpec) :=
  OpenClaim.holds_of_wide 4 Try.f4 rfl rfl rfl rfl rfl rfl rfl ⟨rfl, rfl, rfl, rfl, rfl⟩ rfl rfl rfl rfl rfl (by kernel_rfl) Try.func4 (by kernel_rfl)
    (of_decide_eq_true (by kernel_rfl)) (by unfold Func.isWrapper; first | (rw [if_pos (by decide +kernel)]; kernel_rfl) | (rw [if_neg (by decide +kernel)]; exact ⟨rfl, rfl⟩))
    (fun os started H enc _ => lifted os started H enc)

end Go.Proofs.Ytkegpgmmlmineaa.greetAsked
namespace Go.Proofs.Ytkegpgmmlmineaa
/-- The statement. -/
theorem greetAsked_holds : Rows.GreetAskedSaid := greetAsked.over
#print axioms greetAsked_holds
end Go.Proofs.Ytkegpgmmlmineaa
