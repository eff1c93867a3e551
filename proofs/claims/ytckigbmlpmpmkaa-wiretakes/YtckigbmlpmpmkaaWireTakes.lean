/- Take of any bytes, of any widths, is what the chapter says, and the bytes stay: for every list of bytes and every list of widths the law answers true (of more than 2400 bytes or 300 widths it says nothing else). -/
import Derived.Test.YtckigbmlpmpmkaaRows
import Derived.Test.YtckigbmlpmpmkaaWLaw
import Derived.WalkKit
import Derived.ProofKit
import Derived.OpenShut
import Derived.ShutString
import Derived.ChangeOld
import Derived.Below
namespace Go.Proofs.Ytckigbmlpmpmkaa.wireTakes
open Go.ChangeShapes Go.WideShapes Go.ChangeAt Go.RowKit
open Go.ChangeMaps (open_string shut_string)
set_option linter.unusedVariables false

theorem own : ownKnob Try.prog.godebug = none := by kernel_rfl
theorem laidOut : laidOutB Try.prog = true := by kernel_rfl

/-- WHAT THE WALK IS TOLD OF A SLICE OF INTEGERS THAT CAME IN: it is nil; or it leads to a row of 'cap' cells, the numbers 'zs' (the first 'len' are its elements, the rest its spare room), each fitting its kind. -/
def IsRow (k : IntKind) (w : World) (a : Option Addr) (len cap : Nat) (zs : List Int) : Prop :=
  (a = none ∧ len = 0 ∧ cap = 0 ∧ zs = []) ∨
  ∃ x, a = some x ∧ len ≤ cap ∧ cap ≤ maxLen ∧ zs.length = cap ∧ (∀ i, i < zs.length → w.cell? (x.add i) = some (.int k (zs.getD i 0))) ∧ ∀ n ∈ zs, (Lit.int k n).wf = true

theorem walk (a0 : Option Addr) (len0 cap0 : Nat) (z0 : List Int) (a1 : Option Addr) (len1 cap1 : Nat) (z1 : List Int) (w : World) (w0 : IsRow .u8 w a0 len0 cap0 z0) (w1 : IsRow .i64 w a1 len1 cap1 z1) :
    Calls Try.prog 4 #[.slice a0 len0 cap0, .slice a1 len1 cap1] w fun e w' => e = .returned (.bool true) ∧ Below w.heap.size w w' := by
  obtain ⟨hx, hxc, hxn⟩ := row_nin w0
  obtain ⟨hy, _, _⟩ := row_nin w1
  obtain ⟨X, eX⟩ : ∃ X, X = z0.take len0 := ⟨_, rfl⟩
  obtain ⟨V, eV⟩ : ∃ V, V = z1.take len1 := ⟨_, rfl⟩
  rw [← eX] at hx
  rw [← eV] at hy
  have H : Hid (BIn w a0 len0 X ∧ NIn .i64 w a1 len1 V ∧ len0 ≤ cap0 ∧ (a0 = none → len0 = 0 ∧ cap0 = 0)) := ⟨hx.b, hy, hxc, hxn⟩
  clear hx hy eX eV w0 w1 hxc hxn
  by_cases h1 : (2400 : Int) < len0
  · go_enter Try.func4, Try.ntmps4
    go_wp2
    go_ret
    exact ⟨rfl, Below.refl _ _⟩
  by_cases h2 : (300 : Int) < len1
  · have d1 : decide (2400 < len0) = false := decide_eq_false (by omega)
    go_enter Try.func4, Try.ntmps4
    go_wp2
    go_ret
    exact ⟨rfl, Below.refl _ _⟩
  have n1 : len0 ≤ 2400 := by omega
  have n2 : len1 ≤ 300 := by omega
  have HN : Hid (len0 ≤ 2400 ∧ len1 ≤ 300) := ⟨n1, n2⟩
  go_enter Try.func4, Try.ntmps4
  go_wp2_with fail
  refine (lentBytes_of a0 len0 cap0 X w H.out.1 H.out.2.2.2 (by have := HN.out; omega)).mono ?_
  rintro e w1 ⟨A1, C1, rfl, ow1, b1⟩
  have B1 : Hid (BIn w1 A1 len0 X ∧ (A1 = none → len0 = 0 ∧ C1 = 0) ∧ len0 ≤ C1 ∧ Below w.heap.size w w1) :=
    ⟨own_bin ow1 (by have := HN.out; unfold maxLen; omega) H.out.1.2.2.1, own_nil ow1, own_capN ow1, b1⟩
  clear ow1 b1
  go_wp2_with fail
  refine (take_of A1 len0 C1 X a1 len1 cap1 V w1 B1.out.1 B1.out.2.1 B1.out.2.2.1 (H.out.2.1.below B1.out.2.2.2) (by have := HN.out; omega) (by have := HN.out; omega)).mono ?_
  rintro e w2 ⟨A2, k2, C2, R2, r2, D2, rfl, ow2, or2, b2⟩
  have B2 : Hid (NIn .u64 w2 A2 k2 (takeV X V) ∧ BIn w2 R2 r2 (takeR X V) ∧ BIn w2 A1 len0 X ∧ Below w.heap.size w w2) := by
    refine ⟨own_nin ow2 ?_ (takeV_wf X V H.out.1.2.2.1), own_bin or2 ?_ (takeR_fits X V H.out.1.2.2.1), B1.out.1.below b2, B1.out.2.2.2.trans (b2.mono B1.out.2.2.2.size)⟩
    · have := ow2.1; have := takeV_len X V; have := H.out.2.1.1; have := HN.out; rw [kInts_length] at *; unfold maxLen; omega
    · have := or2.1; have := takeR_len X V; have := H.out.1.1; have := HN.out; rw [u8s_length] at *; unfold maxLen; omega
  clear ow2 or2 b2
  go_wp2_with fail
  refine (refTake_of a0 len0 cap0 X a1 len1 cap1 V w2 (H.out.1.below B2.out.2.2.2) H.out.2.2.2 H.out.2.2.1 (H.out.2.1.below B2.out.2.2.2) (by have := HN.out; omega) (by have := HN.out; omega)).mono ?_
  rintro e w3 ⟨A3, k3, C3, R3, r3, D3, rfl, ow3, or3, b3⟩
  have B3 : Hid (NIn .u64 w3 A2 k2 (takeV X V) ∧ BIn w3 R2 r2 (takeR X V) ∧ BIn w3 A1 len0 X ∧ NIn .u64 w3 A3 k3 (takeV X V) ∧ BIn w3 R3 r3 (takeR X V) ∧ k2 ≤ 300 ∧ Below w.heap.size w w3) := by
    refine ⟨B2.out.1.below b3, B2.out.2.1.below b3, B2.out.2.2.1.below b3, own_nin ow3 ?_ (takeV_wf X V H.out.1.2.2.1), own_bin or3 ?_ (takeR_fits X V H.out.1.2.2.1), ?_, B2.out.2.2.2.trans (b3.mono B2.out.2.2.2.size)⟩
    · have := ow3.1; have := takeV_len X V; have := H.out.2.1.1; have := HN.out; rw [kInts_length] at *; unfold maxLen; omega
    · have := or3.1; have := takeR_len X V; have := H.out.1.1; have := HN.out; rw [u8s_length] at *; unfold maxLen; omega
    · have := B2.out.1.1; have := takeV_len X V; have := H.out.2.1.1; have := HN.out; omega
  clear ow3 or3 b3
  go_wp2_with fail
  refine (wknown_any _).mono ?_
  rintro e w4 ⟨rfl, b4⟩
  have B4 : Hid (Below w3.heap.size w3 w4) := b4
  clear b4
  go_wp2_with fail
  refine (sameNumbers_of A2 k2 C2 (takeV X V) A3 k3 C3 (takeV X V) w4 (B3.out.1.below B4.out) (B3.out.2.2.2.1.below B4.out) rfl (by have := B3.out.2.2.2.2.2.1; omega)).mono ?_
  rintro e w5 ⟨rfl, ⟨kd, rfl⟩⟩
  have B5 : Hid (Below w3.heap.size w3 (w4.drewN kd)) := below_drewN B4.out kd
  go_wp2_with fail
  refine (sameBytes_of R2 r2 D2 (takeR X V) R3 r3 D3 (takeR X V) _ (B3.out.2.1.below B5.out) (B3.out.2.2.2.2.1.below B5.out) rfl).mono ?_
  rintro e w6 ⟨rfl, rfl⟩
  go_wp2_with fail
  refine (sameBytes_of A1 len0 C1 X a0 len0 cap0 X _ (B3.out.2.2.1.below B5.out) (H.out.1.below (B3.out.2.2.2.2.2.2.trans (B5.out.mono B3.out.2.2.2.2.2.2.size))) rfl).mono ?_
  rintro e w6 ⟨rfl, rfl⟩
  go_wp2
  go_ret
  exact ⟨rfl, B3.out.2.2.2.2.2.2.trans (B5.out.mono B3.out.2.2.2.2.2.2.size)⟩

set_option maxRecDepth 100000 in
theorem lifted (os : Os) (started : os.Started) (H : Type) (enc : TypeId × Value → H) :
    ReturnsInHanded {} Try.checked os 4 .any (Rows.wireTakesSpec.pre6 enc Try.prog Try.f4 Rows.wireTakesRow.domain false) (Rows.wireTakesSpec.post enc Try.prog Try.f4 false true false false) := by
  refine returnsInHanded_of_change (C := Try.checked) own started (by kernel_rfl) Try.func4
    (ChangeSpec.witness6 (enc := enc) (C := Try.checked) false ⟨#[], #[.slice none 0 0, .slice none 0 0], []⟩ 8 (by kernel_rfl) (by kernel_rfl) (by kernel_rfl) (by kernel_rfl)) ?_
  intro W base args ds gs before hval0 hW hcnd _
  have hval : ∀ (j : Nat) t v, Try.f4.params[j]? = some t → args[j]? = some v → Value.okWide Try.prog W .any base t v := hval0
  have hW' := hW
  obtain ⟨p, q, hA0, hV, rfl, hfz, hnd⟩ := hW
  have hA : DataW.TrodAll enc Try.prog W 0 (fun _ => true) true Try.f4.params.toList args.toList ds p := hA0
  rw [Try.params4] at hA hval
  obtain ⟨v0, vs0, d0, ds0, p0, q0, hargs, rfl, rfl, h0, r0⟩ := trodAll_cons hA
  obtain ⟨v1, vs1, d1, ds1, p1, q1, rfl, rfl, rfl, h1, r1⟩ := trodAll_cons r0
  obtain ⟨rfl, rfl, rfl⟩ := trodAll_nil r1
  obtain rfl : args = #[v0, v1] := by cases args; simp_all
  obtain ⟨rfl, rfl⟩ := trodVars_none hV
  obtain ⟨a0, len0, cap0, rfl⟩ := okWide_slice Try.underlying26 (hval 0 26 v0 rfl rfl)
  have k0 := h0
  have lt0 : ∀ x ∈ p0, x.block < W.heap.size := by obtain ⟨m, hm⟩ := k0; exact DataW.trod_lt m _ _ _ hm
  obtain ⟨z0, w0⟩ : ∃ zs, IsRow .u8 W a0 len0 cap0 zs := by
    obtain ⟨fuel, hf⟩ := h0
    rcases open_ints Try.underlying26 Try.underlying5 (by kernel_rfl) hf with ⟨hcs, _⟩ | ⟨x, l, c, zs, hcs, _, hl, hm, hz, _, hcell, hwz⟩
    · simp [Value.cells] at hcs
      obtain ⟨rfl, rfl, rfl⟩ := hcs
      exact ⟨[], .inl ⟨rfl, rfl, rfl, rfl⟩⟩
    · simp [Value.cells] at hcs
      obtain ⟨rfl, rfl, rfl⟩ := hcs
      exact ⟨zs, .inr ⟨_, rfl, hl, hm, by simpa using hz, hcell, hwz⟩⟩
  obtain ⟨a1, len1, cap1, rfl⟩ := okWide_slice Try.underlying22 (hval 1 22 v1 rfl rfl)
  have k1 := h1
  have lt1 : ∀ x ∈ p1, x.block < W.heap.size := by obtain ⟨m, hm⟩ := k1; exact DataW.trod_lt m _ _ _ hm
  obtain ⟨z1, w1⟩ : ∃ zs, IsRow .i64 W a1 len1 cap1 zs := by
    obtain ⟨fuel, hf⟩ := h1
    rcases open_ints Try.underlying22 Try.underlying3 (by kernel_rfl) hf with ⟨hcs, _⟩ | ⟨x, l, c, zs, hcs, _, hl, hm, hz, _, hcell, hwz⟩
    · simp [Value.cells] at hcs
      obtain ⟨rfl, rfl, rfl⟩ := hcs
      exact ⟨[], .inl ⟨rfl, rfl, rfl, rfl⟩⟩
    · simp [Value.cells] at hcs
      obtain ⟨rfl, rfl, rfl⟩ := hcs
      exact ⟨zs, .inr ⟨_, rfl, hl, hm, by simpa using hz, hcell, hwz⟩⟩
  clear hA0 hval0
  refine (walk a0 len0 cap0 z0 a1 len1 cap1 z1 W w0 w1).mono fun e W' ⟨he, bel⟩ => ?_
  subst he
  exact ⟨_, rfl, _, _, _, [], _, [], hW', trodAll_mk1 (shut_bool Try.underlying4 _), (trodAll_cons_mk (Below.trod laidOut (by kernel_rfl) (of_decide_eq_true (by kernel_rfl)) k0 bel lt0) (trodAll_cons_mk (Below.trod laidOut (by kernel_rfl) (of_decide_eq_true (by kernel_rfl)) k1 bel lt1) trodAll_mk0)), rfl, bel.frame _, fun h => by cases h⟩

theorem over : Rows.wireTakesRow.holds Try.pinned (OpenSpec.ofChange Rows.wireTakesSpec) :=
  OpenClaim.holds_of_wide 4 Try.f4 rfl rfl rfl rfl rfl rfl rfl ⟨rfl, rfl, rfl, rfl, rfl⟩ rfl rfl rfl rfl rfl (by kernel_rfl) Try.func4 (by kernel_rfl)
    (of_decide_eq_true (by kernel_rfl)) (by unfold Func.isWrapper; first | (rw [if_pos (by decide +kernel)]; kernel_rfl) | (rw [if_neg (by decide +kernel)]; exact ⟨rfl, rfl⟩))
    (fun os started H enc _ => lifted os started H enc)

end Go.Proofs.Ytckigbmlpmpmkaa.wireTakes
namespace Go.Proofs.Ytckigbmlpmpmkaa
/-- The statement. -/
theorem wireTakes_holds : Rows.WireTakesSaid := wireTakes.over
#print axioms wireTakes_holds
end Go.Proofs.Ytckigbmlpmpmkaa
