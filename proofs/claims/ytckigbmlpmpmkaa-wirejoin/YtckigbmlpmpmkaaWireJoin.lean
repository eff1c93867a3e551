/- Numbers that are packed in two lists, one behind the other, are those that are packed in one: for every list of widths, every list of numbers and every place the law answers true (of more than 300 of either, or fewer numbers than widths, it says nothing but that known answers true). -/
import Derived.Test.YtckigbmlpmpmkaaRows
import Derived.Test.YtckigbmlpmpmkaaWLaw
import Derived.WalkKit
import Derived.ProofKit
import Derived.OpenShut
import Derived.ShutString
import Derived.ChangeOld
import Derived.Below
namespace Go.Proofs.Ytckigbmlpmpmkaa.wireJoin
open Go.ChangeShapes Go.WideShapes Go.ChangeAt Go.RowKit
open Go.ChangeMaps (open_string shut_string)
set_option linter.unusedVariables false

theorem own : ownKnob Try.prog.godebug = none := by kernel_rfl
theorem laidOut : laidOutB Try.prog = true := by kernel_rfl

/-- WHAT THE WALK IS TOLD OF A SLICE OF INTEGERS THAT CAME IN: it is nil; or it leads to a row of 'cap' cells, the numbers 'zs' (the first 'len' are its elements, the rest its spare room), each fitting its kind. -/
def IsRow (k : IntKind) (w : World) (a : Option Addr) (len cap : Nat) (zs : List Int) : Prop :=
  (a = none ∧ len = 0 ∧ cap = 0 ∧ zs = []) ∨
  ∃ x, a = some x ∧ len ≤ cap ∧ cap ≤ maxLen ∧ zs.length = cap ∧ (∀ i, i < zs.length → w.cell? (x.add i) = some (.int k (zs.getD i 0))) ∧ ∀ n ∈ zs, (Lit.int k n).wf = true

set_option maxHeartbeats 2000000 in
theorem walk (a0 : Option Addr) (len0 cap0 : Nat) (z0 : List Int) (a1 : Option Addr) (len1 cap1 : Nat) (z1 : List Int) (a2 : Int) (w : World) (w0 : IsRow .i64 w a0 len0 cap0 z0) (w1 : IsRow .u64 w a1 len1 cap1 z1) (w2 : (Lit.int .i64 a2).wf = true) :
    Calls Try.prog 7 #[.slice a0 len0 cap0, .slice a1 len1 cap1, .int .i64 a2] w fun e w' => e = .returned (.bool true) ∧ Below w.heap.size w w' := by
  obtain ⟨hx, hxc, _⟩ := row_nin w0
  obtain ⟨hy, hyc, _⟩ := row_nin w1
  obtain ⟨X, eX⟩ : ∃ X, X = z0.take len0 := ⟨_, rfl⟩
  obtain ⟨V, eV⟩ : ∃ V, V = z1.take len1 := ⟨_, rfl⟩
  rw [← eX] at hx
  rw [← eV] at hy
  have H : Hid (NIn .i64 w a0 len0 X ∧ NIn .u64 w a1 len1 V ∧ len0 ≤ cap0 ∧ len1 ≤ cap1) := ⟨hx, hy, hxc, hyc⟩
  clear hx hy eX eV w0 w1 hxc hyc
  have bk := bounds_i64 w2
  clear w2
  by_cases h1 : (300 : Int) < len0
  · go_enter Try.func7, Try.ntmps7
    go_wp2_with (go_at_call 8; refine (wknown_any _).mono ?_; rintro e W ⟨rfl, b⟩)
    go_ret
    exact ⟨rfl, b⟩
  have d1 : decide (300 < len0) = false := decide_eq_false (by omega)
  by_cases h2 : (len1 : Int) < len0
  · go_enter Try.func7, Try.ntmps7
    go_wp2_with (go_at_call 8; refine (wknown_any _).mono ?_; rintro e W ⟨rfl, b⟩)
    go_ret
    exact ⟨rfl, b⟩
  have d2 : decide (len1 < len0) = false := decide_eq_false (by omega)
  by_cases h3 : (300 : Int) < len1
  · go_enter Try.func7, Try.ntmps7
    go_wp2_with (go_at_call 8; refine (wknown_any _).mono ?_; rintro e W ⟨rfl, b⟩)
    go_ret
    exact ⟨rfl, b⟩
  have d3 : decide (300 < len1) = false := decide_eq_false (by omega)
  have n1 : len0 ≤ 300 := by omega
  have n2 : len1 ≤ 300 := by omega
  have n3 : len0 ≤ len1 := by omega
  obtain ⟨M, hM⟩ : ∃ M, (if a2 < 0 then (0 : Int) else a2) = M := ⟨_, rfl⟩
  have hM0 : 0 ≤ M := by rw [← hM]; split <;> omega
  have hM1 : M ≤ 9223372036854775807 := by rw [← hM]; split <;> omega
  have hp : (0 : Int) < (len0 : Int) + 1 := by omega
  obtain ⟨t, ht⟩ : ∃ t : Nat, M % ((len0 : Int) + 1) = t := ⟨(M % ((len0 : Int) + 1)).toNat, by rw [Int.toNat_of_nonneg (Int.emod_nonneg _ (by omega))]⟩
  have htl : t ≤ len0 := by have := Int.emod_lt_of_pos M hp; omega
  have HN : Hid (len0 ≤ 300 ∧ len1 ≤ 300 ∧ len0 ≤ len1 ∧ t ≤ len0) := ⟨n1, n2, n3, htl⟩
  have s1 := fun w => slice_front Try.underlying22 Try.one_ints a0 len0 cap0 t (by have := H.out.2.2.1; omega) w
  have s2 := fun w => slice_front Try.underlying23 Try.one_u64s a1 len1 cap1 t (by have := H.out.2.2.2; omega) w
  have s3 := fun w => slice_back Try.underlying22 Try.one_ints a0 len0 cap0 t htl w
  have s4 := fun w => slice_back Try.underlying23 Try.one_u64s a1 len1 cap1 t (by omega) w
  have p3 := fun w' (h : NIn .i64 w' a0 len0 X) => h.back t HN.out.2.2.2 H.out.2.2.1
  have p4 := fun w' (h : NIn .u64 w' a1 len1 V) => h.back t (by have := HN.out; omega) H.out.2.2.2
  obtain ⟨A3, eA3⟩ : ∃ A, A = (if cap0 = t then a0 else a0.map (·.add t)) := ⟨_, rfl⟩
  obtain ⟨A4, eA4⟩ : ∃ A, A = (if cap1 = t then a1 else a1.map (·.add t)) := ⟨_, rfl⟩
  rw [← eA3] at s3 p3
  rw [← eA4] at s4 p4
  have HP : Hid ((∀ w', NIn .i64 w' a0 len0 X → NIn .i64 w' A3 (len0 - t) (X.drop t)) ∧ ∀ w', NIn .u64 w' a1 len1 V → NIn .u64 w' A4 (len1 - t) (V.drop t)) := ⟨p3, p4⟩
  clear eA3 eA4 p3 p4
  go_enter Try.func7, Try.ntmps7
  go_wp2_with fail
  refine (wknown_any _).mono ?_
  rintro e w1 ⟨rfl, b1⟩
  have B1 : Hid (Below w.heap.size w w1) := b1
  clear b1
  go_wp2_with fail
  rw [ht]
  refine region_tail 6 (by kernel_rfl) (by kernel_rfl) ?_
  simp only [List.take_succ_cons, List.take_zero, List.drop_succ_cons, List.drop_zero]
  iterate 6 still_step
  refine wpStill_nil ?_
  go_wp2_with fail
  refine (pack_of a0 t cap0 (X.take t) a1 t cap1 (V.take t) w1.drew ((H.out.1.below B1.out.drew).front t HN.out.2.2.2) ((H.out.2.1.below B1.out.drew).front t (by have := HN.out; omega)) (by have := HN.out; omega) (by have := HN.out; omega)).mono ?_
  rintro e w2 ⟨a3, k3, c3, rfl, hk3, ow3, b3⟩
  have B2 : Hid (w2.ownsRow w1.heap.size 5 1 (.slice a3 k3 c3) k3 (u8s (packL (X.take t) (V.take t))) ∧ Below w.heap.size w w2 ∧ k3 ≤ 2400 ∧ w1.heap.size ≤ w2.heap.size) := by
    refine ⟨ow3, B1.out.drew.trans (b3.mono B1.out.size), ?_, b3.size⟩
    have h1 := pack_len (X.take t) (V.take t)
    rw [List.length_take] at h1
    have := HN.out
    omega
  clear ow3 b3 hk3
  go_wp2_with fail
  have cP := pack_of A3 (len0 - t) (cap0 - t) (X.drop t) A4 (len1 - t) (cap1 - t) (V.drop t) w2.drew (HP.out.1 _ (H.out.1.below B2.out.2.1.drew)) (HP.out.2 _ (H.out.2.1.below B2.out.2.1.drew)) (by omega) (by omega)
  have q1 : w2.drew.ownsRow w1.heap.size 5 1 (.slice a3 k3 c3) k3 (u8s (packL (X.take t) (V.take t))) := B2.out.1.drew
  have q2 : (packL (X.drop t) (V.drop t)).length ≤ 2400 := by
    have h1 := pack_len (X.drop t) (V.drop t)
    rw [List.length_drop, H.out.1.1] at h1
    omega
  have HQ : Hid (w2.drew.ownsRow w1.heap.size 5 1 (.slice a3 k3 c3) k3 (u8s (packL (X.take t) (V.take t))) ∧ (packL (X.drop t) (V.drop t)).length ≤ 2400) := ⟨q1, q2⟩
  clear q1 q2
  go_region_law (first
    | (go_simp; go_at_call 10; refine cP.mono ?_; rintro e w3 ⟨a4, k4, c4, rfl, hk4, ow4, b4⟩; have B3 : Hid (w3.ownsRow w1.heap.size 5 1 (.slice a3 k3 c3) k3 (u8s (packL (X.take t) (V.take t))) ∧ NIn .u8 w3 a4 k4 (packL (X.drop t) (V.drop t)) ∧ (a4 = none → k4 = 0 ∧ c4 = 0) ∧ k4 ≤ 2400 ∧ Below w.heap.size w w3 ∧ w1.heap.size ≤ w3.heap.size) := ⟨own_belowN HQ.out.1 b4 (Nat.le_refl _), own_nin ow4 (by rw [hk4]; have := HQ.out.2; unfold maxLen; omega) (fun z hz => wf8 (packL_fits _ _ z hz)), own_nil ow4, by rw [hk4]; exact HQ.out.2, B2.out.2.1.drew.trans (b4.mono B2.out.2.1.size), Nat.le_trans B2.out.2.2.2 b4.size⟩; clear ow4 b4 hk4)
    | (refine step_append_nin (k := .u8) (size := 1) Try.underlying26 Try.zero_u8 (by decide) rfl (.tmp 42) (.tmp 49) rfl w1.heap.size a3 k3 c3 (packL (X.take t) (V.take t)) rfl B3.out.1 a4 k4 c4 (packL (X.drop t) (V.drop t)) rfl B3.out.2.1 B3.out.2.2.1 (by have := B3.out.2.2.2.1; have := B2.out.2.2.1; omega) B3.out.2.2.2.2.2 ?_; intro a5 c5 w4 ow5 b5))
  all_goals (
    have B4 : Hid (BIn w4 a5 (k3 + k4) (packL X V) ∧ Below w.heap.size w w4) := by
      refine ⟨?_, B3.out.2.2.2.2.1.trans (b5.mono B1.out.size)⟩
      rw [pack_two X V t (by rw [H.out.1.1]; exact HN.out.2.2.2) (by rw [H.out.2.1.1]; have := HN.out; omega)] at ow5
      exact own_bin ow5 (by have := B3.out.2.2.2.1; have := B2.out.2.2.1; unfold maxLen; omega) (packL_fits _ _)
    clear ow5 b5
    go_wp2_with fail
    refine (pack_of a0 len0 cap0 X a1 len1 cap1 V w4 (H.out.1.below B4.out.2) (H.out.2.1.below B4.out.2) (by have := HN.out; omega) (by have := HN.out; omega)).mono ?_
    rintro e w5 ⟨a6, k6, c6, rfl, hk6, ow6, b6⟩
    have B5 : Hid (BIn w5 a5 (k3 + k4) (packL X V) ∧ BIn w5 a6 k6 (packL X V) ∧ Below w.heap.size w w5) := by
      refine ⟨B4.out.1.below b6, own_bin ow6 ?_ (packL_fits _ _), B4.out.2.trans (b6.mono B4.out.2.size)⟩
      have := pack_len X V
      have h1 := H.out.1.1
      rw [hk6]
      unfold maxLen
      omega
    clear ow6 b6 hk6
    go_wp2_with fail
    refine (sameBytes_of a5 (k3 + k4) c5 (packL X V) a6 k6 c6 (packL X V) w5 B5.out.1 B5.out.2.1 rfl).mono ?_
    rintro e w5 ⟨rfl, rfl⟩
    go_wp2
    go_ret
    exact ⟨rfl, B5.out.2.2⟩)

set_option maxRecDepth 100000 in
theorem lifted (os : Os) (started : os.Started) (H : Type) (enc : TypeId × Value → H) :
    ReturnsInHanded {} Try.checked os 7 .any (Rows.wireJoinSpec.pre6 enc Try.prog Try.f7 Rows.wireJoinRow.domain false) (Rows.wireJoinSpec.post enc Try.prog Try.f7 false true false false) := by
  refine returnsInHanded_of_change (C := Try.checked) own started (by kernel_rfl) Try.func7
    (ChangeSpec.witness6 (enc := enc) (C := Try.checked) false ⟨#[], #[.slice none 0 0, .slice none 0 0, .int .i64 0], []⟩ 8 (by kernel_rfl) (by kernel_rfl) (by kernel_rfl) (by kernel_rfl)) ?_
  intro W base args ds gs before hval0 hW hcnd _
  have hval : ∀ (j : Nat) t v, Try.f7.params[j]? = some t → args[j]? = some v → Value.okWide Try.prog W .any base t v := hval0
  have hW' := hW
  obtain ⟨p, q, hA0, hV, rfl, hfz, hnd⟩ := hW
  have hA : DataW.TrodAll enc Try.prog W 0 (fun _ => true) true Try.f7.params.toList args.toList ds p := hA0
  rw [Try.params7] at hA hval
  obtain ⟨v0, vs0, d0, ds0, p0, q0, hargs, rfl, rfl, h0, r0⟩ := trodAll_cons hA
  obtain ⟨v1, vs1, d1, ds1, p1, q1, rfl, rfl, rfl, h1, r1⟩ := trodAll_cons r0
  obtain ⟨v2, vs2, d2, ds2, p2, q2, rfl, rfl, rfl, h2, r2⟩ := trodAll_cons r1
  obtain ⟨rfl, rfl, rfl⟩ := trodAll_nil r2
  obtain rfl : args = #[v0, v1, v2] := by cases args; simp_all
  obtain ⟨rfl, rfl⟩ := trodVars_none hV
  obtain ⟨a0, len0, cap0, rfl⟩ := okWide_slice Try.underlying22 (hval 0 22 v0 rfl rfl)
  have k0 := h0
  have lt0 : ∀ x ∈ p0, x.block < W.heap.size := by obtain ⟨m, hm⟩ := k0; exact DataW.trod_lt m _ _ _ hm
  obtain ⟨z0, w0⟩ : ∃ zs, IsRow .i64 W a0 len0 cap0 zs := by
    obtain ⟨fuel, hf⟩ := h0
    rcases open_ints Try.underlying22 Try.underlying3 (by kernel_rfl) hf with ⟨hcs, _⟩ | ⟨x, l, c, zs, hcs, _, hl, hm, hz, _, hcell, hwz⟩
    · simp [Value.cells] at hcs
      obtain ⟨rfl, rfl, rfl⟩ := hcs
      exact ⟨[], .inl ⟨rfl, rfl, rfl, rfl⟩⟩
    · simp [Value.cells] at hcs
      obtain ⟨rfl, rfl, rfl⟩ := hcs
      exact ⟨zs, .inr ⟨_, rfl, hl, hm, by simpa using hz, hcell, hwz⟩⟩
  obtain ⟨a1, len1, cap1, rfl⟩ := okWide_slice Try.underlying23 (hval 1 23 v1 rfl rfl)
  have k1 := h1
  have lt1 : ∀ x ∈ p1, x.block < W.heap.size := by obtain ⟨m, hm⟩ := k1; exact DataW.trod_lt m _ _ _ hm
  obtain ⟨z1, w1⟩ : ∃ zs, IsRow .u64 W a1 len1 cap1 zs := by
    obtain ⟨fuel, hf⟩ := h1
    rcases open_ints Try.underlying23 Try.underlying37 (by kernel_rfl) hf with ⟨hcs, _⟩ | ⟨x, l, c, zs, hcs, _, hl, hm, hz, _, hcell, hwz⟩
    · simp [Value.cells] at hcs
      obtain ⟨rfl, rfl, rfl⟩ := hcs
      exact ⟨[], .inl ⟨rfl, rfl, rfl, rfl⟩⟩
    · simp [Value.cells] at hcs
      obtain ⟨rfl, rfl, rfl⟩ := hcs
      exact ⟨zs, .inr ⟨_, rfl, hl, hm, by simpa using hz, hcell, hwz⟩⟩
  obtain ⟨a2, rfl, rfl, rfl, w2⟩ := open_int Try.underlying3 (hval 2 3 v2 rfl rfl) h2
  clear hA0 hval0
  refine (walk a0 len0 cap0 z0 a1 len1 cap1 z1 a2 W w0 w1 w2).mono fun e W' ⟨he, bel⟩ => ?_
  subst he
  exact ⟨_, rfl, _, _, _, [], _, [], hW', trodAll_mk1 (shut_bool Try.underlying4 _), (trodAll_cons_mk (Below.trod laidOut (by kernel_rfl) (of_decide_eq_true (by kernel_rfl)) k0 bel lt0) (trodAll_cons_mk (Below.trod laidOut (by kernel_rfl) (of_decide_eq_true (by kernel_rfl)) k1 bel lt1) (trodAll_cons_mk (shut_int Try.underlying3 w2) trodAll_mk0))), rfl, bel.frame _, fun h => by cases h⟩

theorem over : Rows.wireJoinRow.holds Try.pinned (OpenSpec.ofChange Rows.wireJoinSpec) :=
  OpenClaim.holds_of_wide 7 Try.f7 rfl rfl rfl rfl rfl rfl rfl ⟨rfl, rfl, rfl, rfl, rfl⟩ rfl rfl rfl rfl rfl (by kernel_rfl) Try.func7 (by kernel_rfl)
    (of_decide_eq_true (by kernel_rfl)) (by unfold Func.isWrapper; first | (rw [if_pos (by decide +kernel)]; kernel_rfl) | (rw [if_neg (by decide +kernel)]; exact ⟨rfl, rfl⟩))
    (fun os started H enc _ => lifted os started H enc)

end Go.Proofs.Ytckigbmlpmpmkaa.wireJoin
namespace Go.Proofs.Ytckigbmlpmpmkaa
/-- The statement. -/
theorem wireJoin_holds : Rows.WireJoinSaid := wireJoin.over
#print axioms wireJoin_holds
end Go.Proofs.Ytckigbmlpmpmkaa
