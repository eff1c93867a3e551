/- Flags and Next of any bytes are what the chapter says, and the bytes stay. -/
import Derived.Test.YtkegpgmmlmineaaRows
import Derived.Test.YtkegpgmmlmineaaGKnown
import Derived.WalkKit
import Derived.ProofKit
import Derived.OpenShut
import Derived.ShutString
import Derived.ChangeOld
import Derived.Below
namespace Go.Proofs.Ytkegpgmmlmineaa.greetReads
open Go.ChangeShapes Go.WideShapes Go.ChangeAt Go.RowKit
open Go.ChangeMaps (open_string shut_string)
set_option linter.unusedVariables false

theorem own : ownKnob Try.prog.godebug = none := by kernel_rfl
theorem laidOut : laidOutB Try.prog = true := by kernel_rfl

/-- WHAT THE WALK IS TOLD OF A SLICE OF INTEGERS THAT CAME IN: it is nil; or it leads to a row of 'cap' cells, the numbers 'zs' (the first 'len' are its elements, the rest its spare room), each fitting its kind. -/
def IsRow (k : IntKind) (w : World) (a : Option Addr) (len cap : Nat) (zs : List Int) : Prop :=
  (a = none ∧ len = 0 ∧ cap = 0 ∧ zs = []) ∨
  ∃ x, a = some x ∧ len ≤ cap ∧ cap ≤ maxLen ∧ zs.length = cap ∧ (∀ i, i < zs.length → w.cell? (x.add i) = some (.int k (zs.getD i 0))) ∧ ∀ n ∈ zs, (Lit.int k n).wf = true

set_option maxHeartbeats 2000000 in
theorem walk (a0 : Option Addr) (len0 cap0 : Nat) (z0 : List Int) (w : World) (w0 : IsRow .u8 w a0 len0 cap0 z0) :
    Calls Try.prog 3 #[.slice a0 len0 cap0] w fun e w' => e = .returned (.bool true) ∧ Below w.heap.size w w' := by
  obtain ⟨hx, hxc, hxn⟩ := row_nin w0
  obtain ⟨X, eX⟩ : ∃ X, X = z0.take len0 := ⟨_, rfl⟩
  rw [← eX] at hx
  have H : Hid (BIn w a0 len0 X ∧ len0 ≤ cap0 ∧ (a0 = none → len0 = 0 ∧ cap0 = 0)) := ⟨hx.b, hxc, hxn⟩
  clear hx eX w0 hxc hxn
  by_cases h1 : (3000 : Int) < len0
  · go_enter Try.func3, Try.ntmps3
    go_wp2
    go_ret
    exact ⟨rfl, Below.refl _ _⟩
  have n1 : len0 ≤ 3000 := by omega
  have HN : Hid (len0 ≤ 3000) := n1
  obtain ⟨FB, hFB⟩ : ∃ FB, FB = flagsB X := ⟨_, rfl⟩
  obtain ⟨FC, hFC⟩ : ∃ FC, FC = flagsC X := ⟨_, rfl⟩
  obtain ⟨FE, hFE⟩ : ∃ FE, FE = flagsE X := ⟨_, rfl⟩
  obtain ⟨NK, hNK⟩ : ∃ NK, NK = nextK X := ⟨_, rfl⟩
  obtain ⟨NC, hNC⟩ : ∃ NC, NC = nextC X := ⟨_, rfl⟩
  obtain ⟨NE, hNE⟩ : ∃ NE, NE = nextE X := ⟨_, rfl⟩
  obtain ⟨ND, hND⟩ : ∃ ND, ND = nextD X := ⟨_, rfl⟩
  have bF : 0 ≤ FE ∧ FE ≤ 72 := by rw [hFE]; unfold flagsE; split <;> (try split) <;> omega
  have bN : 0 ≤ NE ∧ NE ≤ 73 := by rw [hNE]; rcases nextE_is X with h | h | h | h <;> rw [h] <;> omega
  obtain ⟨bF0, bF1⟩ := bF
  obtain ⟨bN0, bN1⟩ := bN
  have HL : Hid (FB = flagsB X ∧ FC = flagsC X ∧ FE = flagsE X ∧ NK = nextK X ∧ NC = nextC X ∧ NE = nextE X ∧ ND = nextD X) := ⟨hFB, hFC, hFE, hNK, hNC, hNE, hND⟩
  clear hFB hFC hFE hNK hNC hNE hND
  go_enter Try.func3, Try.ntmps3
  go_wp2_with fail
  refine (lentBytes_of a0 len0 cap0 X w H.out.1 H.out.2.2 (by have := HN.out; omega)).mono ?_
  rintro e w1 ⟨A1, C1, rfl, ow1, b1⟩
  have B1 : Hid (BIn w1 A1 len0 X ∧ (A1 = none → len0 = 0 ∧ C1 = 0) ∧ len0 ≤ C1 ∧ Below w.heap.size w w1) :=
    ⟨own_bin ow1 (by have := HN.out; unfold maxLen; omega) H.out.1.2.2.1, own_nil ow1, own_capN ow1, b1⟩
  clear ow1 b1
  go_wp2_with fail
  refine (flags_of A1 len0 C1 X w1 B1.out.1 B1.out.2.1 B1.out.2.2.1 (by have := HN.out; omega)).mono ?_
  rw [← HL.out.1, ← HL.out.2.1, ← HL.out.2.2.1]
  rintro e w2 ⟨rfl, b2⟩
  have B2 : Hid (BIn w2 A1 len0 X ∧ Below w.heap.size w w2) := ⟨B1.out.1.below b2, B1.out.2.2.2.trans (b2.mono B1.out.2.2.2.size)⟩
  clear b2
  go_wp2_with fail
  refine (refFlags_of a0 len0 cap0 X w2 (H.out.1.below B2.out.2) H.out.2.2 H.out.2.1 (by have := HN.out; omega)).mono ?_
  rw [← HL.out.1, ← HL.out.2.1, ← HL.out.2.2.1]
  rintro e w3 ⟨rfl, b3⟩
  have B3 : Hid (BIn w3 A1 len0 X ∧ Below w.heap.size w w3) := ⟨B2.out.1.below b3, B2.out.2.trans (b3.mono B2.out.2.size)⟩
  clear b3
  go_wp2_with fail
  refine (next_of A1 len0 C1 X w3 B3.out.1 B1.out.2.1 B1.out.2.2.1 (by have := HN.out; omega)).mono ?_
  rw [← HL.out.2.2.2.1, ← HL.out.2.2.2.2.1, ← HL.out.2.2.2.2.2.1, ← HL.out.2.2.2.2.2.2]
  rintro e w4 ⟨A4, k4, C4, rfl, d4, -, b4⟩
  have B4 : Hid (BIn w4 A1 len0 X ∧ Below w.heap.size w w4 ∧ BIn w4 A4 k4 ND) := ⟨B3.out.1.below b4, B3.out.2.trans (b4.mono B3.out.2.size), d4⟩
  clear b4 d4
  go_upto_region 7 with (refine wpList_store_mid rfl 32 (.tmp 10) (.tmp 37) rfl w4.heap.size 0 (optL NK A4 k4 C4).toArray rfl rfl ?hT (opt_size _ _ _ _) (opt_all _ _ _ _) ?_; (case hT => exact opt_there _))
  obtain ⟨u0, u1⟩ := opt_kept w4 NK A4 k4 C4
  generalize hU : World.setCells _ _ _ _ = U at u0 u1 ⊢
  have B5 : Hid (BIn U A1 len0 X ∧ Below w.heap.size w U ∧ BIn U A4 k4 ND ∧ Blk U w4.heap.size (optL NK A4 k4 C4) 32) := ⟨B4.out.1.below u1, B4.out.2.1.trans (u1.mono B4.out.2.1.size), B4.out.2.2.below u1, u0⟩
  clear hU u0 u1
  go_wp2_with fail
  refine (refNext_of a0 len0 cap0 X U (H.out.1.below B5.out.2.1) H.out.2.2 H.out.2.1 (by have := HN.out; omega)).mono ?_
  rw [← HL.out.2.2.2.1, ← HL.out.2.2.2.2.1, ← HL.out.2.2.2.2.2.1, ← HL.out.2.2.2.2.2.2]
  rintro e w6 ⟨A6, k6, C6, rfl, d6, -, b6⟩
  have B6 : Hid (BIn w6 A1 len0 X ∧ Below w.heap.size w w6 ∧ BIn w6 A4 k4 ND ∧ Blk w6 w4.heap.size (optL NK A4 k4 C4) 32 ∧ BIn w6 A6 k6 ND) := ⟨B5.out.1.below b6, B5.out.2.1.trans (b6.mono B5.out.2.1.size), B5.out.2.2.1.below b6, B5.out.2.2.2.below b6 B5.out.2.2.2.lt, d6⟩
  clear b6 d6
  go_upto_region 8 with (refine wpList_store_mid rfl 32 (.tmp 13) (.tmp 43) rfl w6.heap.size 0 (optL NK A6 k6 C6).toArray rfl rfl ?hT (opt_size _ _ _ _) (opt_all _ _ _ _) ?_; (case hT => exact opt_there _))
  obtain ⟨u0, u1⟩ := opt_kept w6 NK A6 k6 C6
  generalize hU : World.setCells _ _ _ _ = V at u0 u1 ⊢
  have B7 : Hid (BIn V A1 len0 X ∧ Below w.heap.size w V ∧ BIn V A4 k4 ND ∧ Blk V w4.heap.size (optL NK A4 k4 C4) 32 ∧ BIn V A6 k6 ND ∧ Blk V w6.heap.size (optL NK A6 k6 C6) 32) := ⟨B6.out.1.below u1, B6.out.2.1.trans (u1.mono B6.out.2.1.size), B6.out.2.2.1.below u1, B6.out.2.2.2.1.below u1 B6.out.2.2.2.1.lt, B6.out.2.2.2.2.below u1, u0⟩
  clear hU u0 u1
  have e0 : V.cell? ⟨w4.heap.size, 0, none⟩ = some (.int .u32 NK) := B7.out.2.2.2.1.cell 0
  have e1 : V.cell? ⟨w4.heap.size, 1, none⟩ = some (.slice A4 k4 C4) := B7.out.2.2.2.1.cell 1
  have e2 : V.cell? ⟨w6.heap.size, 0, none⟩ = some (.int .u32 NK) := B7.out.2.2.2.2.2.cell 0
  have e3 : V.cell? ⟨w6.heap.size, 1, none⟩ = some (.slice A6 k6 C6) := B7.out.2.2.2.2.2.cell 1
  go_wp2_with fail
  refine (sameBytes_of A4 k4 C4 ND A6 k6 C6 ND V B7.out.2.2.1 B7.out.2.2.2.2.1 rfl).mono ?_
  rintro e V ⟨rfl, rfl⟩
  go_wp2_with fail
  refine (gknown_any _).mono ?_
  rintro e w8 ⟨rfl, b8⟩
  have B8 : Hid (BIn w8 A1 len0 X ∧ Below w.heap.size w w8) := ⟨B7.out.1.below b8, B7.out.2.1.trans (b8.mono B7.out.2.1.size)⟩
  clear b8 e0 e1 e2 e3
  go_wp2_with fail
  refine (sameBytes_of A1 len0 C1 X a0 len0 cap0 X w8 B8.out.1 (H.out.1.below B8.out.2) rfl).mono ?_
  rintro e w8 ⟨rfl, rfl⟩
  go_wp2
  go_ret
  exact ⟨rfl, B8.out.2⟩

set_option maxRecDepth 100000 in
theorem lifted (os : Os) (started : os.Started) (H : Type) (enc : TypeId × Value → H) :
    ReturnsInHanded {} Try.checked os 3 .any (Rows.greetReadsSpec.pre6 enc Try.prog Try.f3 Rows.greetReadsRow.domain false) (Rows.greetReadsSpec.post enc Try.prog Try.f3 false true false false) := by
  refine returnsInHanded_of_change (C := Try.checked) own started (by kernel_rfl) Try.func3
    (ChangeSpec.witness6 (enc := enc) (C := Try.checked) false ⟨#[], #[.slice none 0 0], []⟩ 8 (by kernel_rfl) (by kernel_rfl) (by kernel_rfl) (by kernel_rfl)) ?_
  intro W base args ds gs before hval0 hW hcnd _
  have hval : ∀ (j : Nat) t v, Try.f3.params[j]? = some t → args[j]? = some v → Value.okWide Try.prog W .any base t v := hval0
  have hW' := hW
  obtain ⟨p, q, hA0, hV, rfl, hfz, hnd⟩ := hW
  have hA : DataW.TrodAll enc Try.prog W 0 (fun _ => true) true Try.f3.params.toList args.toList ds p := hA0
  rw [Try.params3] at hA hval
  obtain ⟨v0, vs0, d0, ds0, p0, q0, hargs, rfl, rfl, h0, r0⟩ := trodAll_cons hA
  obtain ⟨rfl, rfl, rfl⟩ := trodAll_nil r0
  obtain rfl : args = #[v0] := by cases args; simp_all
  obtain ⟨rfl, rfl⟩ := trodVars_none hV
  obtain ⟨a0, len0, cap0, rfl⟩ := okWide_slice Try.underlying22 (hval 0 22 v0 rfl rfl)
  have k0 := h0
  have lt0 : ∀ x ∈ p0, x.block < W.heap.size := by obtain ⟨m, hm⟩ := k0; exact DataW.trod_lt m _ _ _ hm
  obtain ⟨z0, w0⟩ : ∃ zs, IsRow .u8 W a0 len0 cap0 zs := by
    obtain ⟨fuel, hf⟩ := h0
    rcases open_ints Try.underlying22 Try.underlying5 (by kernel_rfl) hf with ⟨hcs, _⟩ | ⟨x, l, c, zs, hcs, _, hl, hm, hz, _, hcell, hwz⟩
    · simp [Value.cells] at hcs
      obtain ⟨rfl, rfl, rfl⟩ := hcs
      exact ⟨[], .inl ⟨rfl, rfl, rfl, rfl⟩⟩
    · simp [Value.cells] at hcs
      obtain ⟨rfl, rfl, rfl⟩ := hcs
      exact ⟨zs, .inr ⟨_, rfl, hl, hm, by simpa using hz, hcell, hwz⟩⟩
  clear hA0 hval0
  refine (walk a0 len0 cap0 z0 W w0).mono fun e W' ⟨he, bel⟩ => ?_
  subst he
  exact ⟨_, rfl, _, _, _, [], _, [], hW', trodAll_mk1 (shut_bool Try.underlying4 _), (trodAll_cons_mk (Below.trod laidOut (by kernel_rfl) (of_decide_eq_true (by kernel_rfl)) k0 bel lt0) trodAll_mk0), rfl, bel.frame _, fun h => by cases h⟩

theorem over : Rows.greetReadsRow.holds Try.pinned (OpenSpec.ofChange Rows.greetReadsSpec) :=
  OpenClaim.holds_of_wide 3 Try.f3 rfl rfl rfl rfl rfl rfl rfl ⟨rfl, rfl, rfl, rfl, rfl⟩ rfl rfl rfl rfl rfl (by kernel_rfl) Try.func3 (by kernel_rfl)
    (of_decide_eq_true (by kernel_rfl)) (by unfold Func.isWrapper; first | (rw [if_pos (by decide +kernel)]; kernel_rfl) | (rw [if_neg (by decide +kernel)]; exact ⟨rfl, rfl⟩))
    (fun os started H enc _ => lifted os started H enc)

end Go.Proofs.Ytkegpgmmlmineaa.greetReads
namespace Go.Proofs.Ytkegpgmmlmineaa
/-- The statement. -/
theorem greetReads_holds : Rows.GreetReadsSaid := greetReads.over
#print axioms greetReads_holds
end Go.Proofs.Ytkegpgmmlmineaa
