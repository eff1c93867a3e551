/- What is packed is taken, modulo what its width holds, whatever stands behind; with a byte less it is not: for every list of widths, of numbers and of bytes the law answers true (of more than 300 of any, or fewer numbers than widths, it says nothing but that known answers true). -/
import Derived.Test.YtckigbmlpmpmkaaRows
import Derived.Test.YtckigbmlpmpmkaaWLaw
import Derived.WalkKit
import Derived.ProofKit
import Derived.OpenShut
import Derived.ShutString
import Derived.ChangeOld
import Derived.Below
namespace Go.Proofs.Ytckigbmlpmpmkaa.wireBack
open Go.ChangeShapes Go.WideShapes Go.ChangeAt Go.RowKit
open Go.ChangeMaps (open_string shut_string)
set_option linter.unusedVariables false

theorem own : ownKnob Try.prog.godebug = none := by kernel_rfl
theorem laidOut : laidOutB Try.prog = true := by kernel_rfl

/-- WHAT THE WALK IS TOLD OF A SLICE OF INTEGERS THAT CAME IN: it is nil; or it leads to a row of 'cap' cells, the numbers 'zs' (the first 'len' are its elements, the rest its spare room), each fitting its kind. -/
def IsRow (k : IntKind) (w : World) (a : Option Addr) (len cap : Nat) (zs : List Int) : Prop :=
  (a = none ∧ len = 0 ∧ cap = 0 ∧ zs = []) ∨
  ∃ x, a = some x ∧ len ≤ cap ∧ cap ≤ maxLen ∧ zs.length = cap ∧ (∀ i, i < zs.length → w.cell? (x.add i) = some (.int k (zs.getD i 0))) ∧ ∀ n ∈ zs, (Lit.int k n).wf = true

set_option maxHeartbeats 2000000 in
theorem walk (a0 : Option Addr) (len0 cap0 : Nat) (z0 : List Int) (a1 : Option Addr) (len1 cap1 : Nat) (z1 : List Int) (a2 : Option Addr) (len2 cap2 : Nat) (z2 : List Int) (w : World) (w0 : IsRow .i64 w a0 len0 cap0 z0) (w1 : IsRow .u64 w a1 len1 cap1 z1) (w2 : IsRow .u8 w a2 len2 cap2 z2) :
    Calls Try.prog 5 #[.slice a0 len0 cap0, .slice a1 len1 cap1, .slice a2 len2 cap2] w fun e w' => e = .returned (.bool true) ∧ Below w.heap.size w w' := by
  obtain ⟨hx, hxc, _⟩ := row_nin w0
  obtain ⟨hy, hyc, _⟩ := row_nin w1
  obtain ⟨hm, hmc, hmn⟩ := row_nin w2
  obtain ⟨X, eX⟩ : ∃ X, X = z0.take len0 := ⟨_, rfl⟩
  obtain ⟨V, eV⟩ : ∃ V, V = z1.take len1 := ⟨_, rfl⟩
  obtain ⟨Y, eY⟩ : ∃ Y, Y = z2.take len2 := ⟨_, rfl⟩
  rw [← eX] at hx
  rw [← eV] at hy
  rw [← eY] at hm
  have H : Hid (NIn .i64 w a0 len0 X ∧ NIn .u64 w a1 len1 V ∧ BIn w a2 len2 Y ∧ (a2 = none → len2 = 0 ∧ cap2 = 0)) := ⟨hx, hy, hm.b, hmn⟩
  clear hx hy hm hmn hxc hyc hmc eX eV eY w0 w1 w2
  by_cases h1 : (300 : Int) < len0
  · go_enter Try.func5, Try.ntmps5
    go_wp2_with (go_at_call 8; refine (wknown_any _).mono ?_; rintro e W ⟨rfl, b⟩)
    go_ret
    exact ⟨rfl, b⟩
  have d1 : decide (300 < len0) = false := decide_eq_false (by omega)
  by_cases h2 : (len1 : Int) < len0
  · go_enter Try.func5, Try.ntmps5
    go_wp2_with (go_at_call 8; refine (wknown_any _).mono ?_; rintro e W ⟨rfl, b⟩)
    go_ret
    exact ⟨rfl, b⟩
  have d2 : decide (len1 < len0) = false := decide_eq_false (by omega)
  by_cases h3 : (300 : Int) < len1
  · go_enter Try.func5, Try.ntmps5
    go_wp2_with (go_at_call 8; refine (wknown_any _).mono ?_; rintro e W ⟨rfl, b⟩)
    go_ret
    exact ⟨rfl, b⟩
  have d3 : decide (300 < len1) = false := decide_eq_false (by omega)
  by_cases h4 : (300 : Int) < len2
  · go_enter Try.func5, Try.ntmps5
    go_wp2_with (go_at_call 8; refine (wknown_any _).mono ?_; rintro e W ⟨rfl, b⟩)
    go_ret
    exact ⟨rfl, b⟩
  have d4 : decide (300 < len2) = false := decide_eq_false (by omega)
  have n1 : len0 ≤ 300 := by omega
  have n2 : len1 ≤ 300 := by omega
  have n3 : len0 ≤ len1 := by omega
  have n4 : len2 ≤ 300 := by omega
  obtain ⟨P, eP⟩ : ∃ P, P = packL X V := ⟨_, rfl⟩
  have hVf : ∀ v ∈ V, FitsU v := fun v hv => fitsU (H.out.2.1.2.2.1 v hv)
  have hXV : X.length ≤ V.length := by rw [H.out.1.1, H.out.2.1.1]; exact n3
  have HP : Hid (P = packL X V ∧ P.length = offL X ∧ offL X ≤ 2400 ∧ (∀ z ∈ P, Fits8 z) ∧ takeV (P ++ Y) X = modL X V ∧ takeR (P ++ Y) X = Y ∧ decide (offL X ≤ (P ++ Y).length) = true ∧ (modL X V).length = len0 ∧ ∀ z ∈ modL X V, (Lit.int .u64 z).wf = true) := by
    rw [eP]
    refine ⟨rfl, packL_length X V hXV, ?_, packL_fits _ _, back_vals X V Y hXV hVf, back_rest X V Y hXV, decide_eq_true (back_yes X V Y hXV), by rw [modL_length X V hXV, H.out.1.1], modL_fits X V hVf⟩
    have := offL_le X
    have h1 := H.out.1.1
    omega
  have HN : Hid (len0 ≤ 300 ∧ len1 ≤ 300 ∧ len0 ≤ len1 ∧ len2 ≤ 300) := ⟨n1, n2, n3, n4⟩
  clear eP hVf hXV
  go_enter Try.func5, Try.ntmps5
  go_wp2_with fail
  refine (wknown_any _).mono ?_
  rintro e w1 ⟨rfl, b1⟩
  have B1 : Hid (Below w.heap.size w w1) := b1
  clear b1
  go_wp2_with fail
  refine (pack_of a0 len0 cap0 X a1 len1 cap1 V w1 (H.out.1.below B1.out) (H.out.2.1.below B1.out) (by have := HN.out; omega) (by have := HN.out; omega)).mono ?_
  rintro e w2 ⟨a3, k3, c3, rfl, hk3, ow3, b3⟩
  rw [← HP.out.1] at hk3 ow3
  have B2 : Hid (BIn w2 a3 k3 P ∧ (a3 = none → k3 = 0 ∧ c3 = 0) ∧ k3 ≤ c3 ∧ Below w.heap.size w w2 ∧ k3 = offL X ∧ k3 ≤ 2400) := by
    have hk : k3 ≤ 2400 := by rw [hk3, HP.out.2.1]; exact HP.out.2.2.1
    exact ⟨own_bin ow3 (by unfold maxLen; omega) HP.out.2.2.2.1, own_nil ow3, own_capN ow3, B1.out.trans (b3.mono B1.out.size), by rw [hk3, HP.out.2.1], hk⟩
  clear ow3 b3 hk3
  go_wp2_with fail
  refine (lentBytes_of a3 k3 c3 P w2 B2.out.1 B2.out.2.1 (by have := B2.out.2.2.2.2.2; omega)).mono ?_
  rintro e w3 ⟨A4, C4, rfl, ow4, b4⟩
  have hk24 : k3 ≤ 2400 := B2.out.2.2.2.2.2
  have B3 : Hid (w3.ownsRow w2.heap.size 5 1 (.slice A4 k3 C4) k3 (u8s P) ∧ Below w2.heap.size w2 w3 ∧ BIn w3 a2 len2 Y) :=
    ⟨ow4, b4, (H.out.2.2.1.below B2.out.2.2.2.1).below b4⟩
  clear ow4 b4
  go_upto_region 6 with (at_builtin; refine wpList_append_bin rfl (.tmp 48) (.tmp 49) rfl w2.heap.size A4 k3 C4 P rfl B3.out.1 a2 len2 cap2 Y rfl B3.out.2.2 H.out.2.2.2 (by omega) B3.out.2.1.size ?_; intro A5 C5 w4 ow5 b5)
  have B4 : Hid (BIn w4 A5 (k3 + len2) (P ++ Y) ∧ (A5 = none → k3 + len2 = 0 ∧ C5 = 0) ∧ k3 + len2 ≤ C5 ∧ Below w2.heap.size w2 w4) := by
    refine ⟨own_bin ow5 (by unfold maxLen; omega) ?_, own_nil ow5, own_capN ow5, B3.out.2.1.trans b5⟩
    intro z hz
    rcases List.mem_append.1 hz with hz | hz
    · exact HP.out.2.2.2.1 z hz
    · exact H.out.2.2.1.2.2.1 z hz
  clear ow5 b5
  have B4' : Hid (Below w.heap.size w w4) := B2.out.2.2.2.1.trans (B4.out.2.2.2.mono B2.out.2.2.2.1.size)
  go_wp2_with fail
  refine (take_of A5 (k3 + len2) C5 (P ++ Y) a0 len0 cap0 X w4 B4.out.1 B4.out.2.1 B4.out.2.2.1 (H.out.1.below B4'.out) (by have := HN.out; omega) (by have := HN.out; omega)).mono ?_
  rw [HP.out.2.2.2.2.1, HP.out.2.2.2.2.2.1, HP.out.2.2.2.2.2.2.1]
  rintro e w5 ⟨A6, k6, C6, R6, r6, D6, rfl, ow6, or6, b6⟩
  have hk6 : k6 = len0 := by have := ow6.1; rw [kInts_length, HP.out.2.2.2.2.2.2.2.1] at this; omega
  subst hk6
  have B5 : Hid (NIn .u64 w5 A6 k6 (modL X V) ∧ BIn w5 R6 r6 Y ∧ Below w4.heap.size w4 w5 ∧ Below w.heap.size w w5) := by
    refine ⟨own_nin ow6 (by unfold maxLen; omega) HP.out.2.2.2.2.2.2.2.2, own_bin or6 ?_ H.out.2.2.1.2.2.1, b6, B4'.out.trans (b6.mono B4'.out.size)⟩
    have h1 := or6.1
    have h2 := H.out.2.2.1.1
    rw [u8s_length] at h1
    unfold maxLen
    omega
  clear ow6 or6 b6
  go_wp2_with fail
  refine (sameBytes_of R6 r6 D6 Y a2 len2 cap2 Y w5 B5.out.2.1 (H.out.2.2.1.below B5.out.2.2.2) rfl).mono ?_
  rintro e w5 ⟨rfl, rfl⟩
  go_wp2
  go_loopw [12] (fun i wr => ∃ j : Nat, j ≤ k6 ∧ i = .int .i64 j ∧ wr = w5)
    (fun i _ => k6 - (intOf i).toNat)
  case atStart => exact ⟨0, by omega, rfl, rfl⟩
  case round =>
    obtain ⟨j, hj, rfl, rfl⟩ := hrel
    by_cases hlt : j < k6
    · have hlt' : (j : Int) < k6 := by omega
      have hlt1 : (j : Int) < len1 := by omega
      obtain ⟨b1, o1, rfl, hc1⟩ := H.out.1.2.2.2.resolve_left (by omega)
      obtain ⟨b2, o2, rfl, hc2⟩ := H.out.2.1.2.2.2.resolve_left (by omega)
      obtain ⟨b6, o6, rfl, hc6⟩ := B5.out.1.2.2.2.resolve_left (by omega)
      have cw : wr.cell? ⟨b1, o1 + j, none⟩ = some (.int .i64 (X.getD j 0)) := by rw [B5.out.2.2.2.cell (old_block (hc1 j (by omega)))]; exact hc1 j (by omega)
      have cv : wr.cell? ⟨b2, o2 + j, none⟩ = some (.int .u64 (V.getD j 0)) := by rw [B5.out.2.2.2.cell (old_block (hc2 j (by omega)))]; exact hc2 j (by omega)
      have cm := hc6 j hlt
      rw [modL_at X V j (by rw [H.out.1.1]; omega) (by rw [H.out.1.1, H.out.2.1.1]; have := HN.out; omega)] at cm
      have hv := fitsU (num_fits H.out.2.1.2.2.1 j (by rw [H.out.2.1.1]; omega))
      clear hc1 hc2 hc6
      obtain ⟨x, ex⟩ : ∃ x, x = X.getD j 0 := ⟨_, rfl⟩
      obtain ⟨v, ev⟩ : ∃ v, v = V.getD j 0 := ⟨_, rfl⟩
      rw [← ex] at cw cm
      rw [← ev] at cv cm hv
      clear ex ev
      unfold FitsU at hv
      obtain ⟨v0, v1⟩ := hv
      have cS := width_of x wr
      rcases wd_cases x with hw | hw | hw | hw
      · rw [hw] at cS cm
        have cm' : wr.cell? ⟨b6, o6 + j, none⟩ = some (.int .u64 (v % 256)) := cm
        clear hw cm
        go_wp2_with (go_at_call 16; refine cS.mono ?_; rintro e wr ⟨rfl, rfl⟩)
        go_roundw
        case rel => exact ⟨j + 1, by omega, by go_num, trivial⟩
        case measure => simp [intOf] <;> omega
      · rw [hw] at cS cm
        have cm' : wr.cell? ⟨b6, o6 + j, none⟩ = some (.int .u64 (v % 65536)) := cm
        clear hw cm
        go_wp2_with (go_at_call 16; refine cS.mono ?_; rintro e wr ⟨rfl, rfl⟩)
        go_roundw
        case rel => exact ⟨j + 1, by omega, by go_num, trivial⟩
        case measure => simp [intOf] <;> omega
      · rw [hw] at cS cm
        have cm' : wr.cell? ⟨b6, o6 + j, none⟩ = some (.int .u64 (v % 4294967296)) := cm
        clear hw cm
        go_wp2_with (go_at_call 16; refine cS.mono ?_; rintro e wr ⟨rfl, rfl⟩)
        go_roundw
        case rel => exact ⟨j + 1, by omega, by go_num, trivial⟩
        case measure => simp [intOf] <;> omega
      · rw [hw] at cS cm
        have cm' : wr.cell? ⟨b6, o6 + j, none⟩ = some (.int .u64 v) := by
          have hp : (256 : Int) ^ 8 = 18446744073709551616 := by decide
          have : v % 256 ^ 8 = v := Int.emod_eq_of_lt v0 (by rw [hp]; exact v1)
          rw [this] at cm
          exact cm
        clear hw cm
        go_wp2_with (go_at_call 16; refine cS.mono ?_; rintro e wr ⟨rfl, rfl⟩)
        go_roundw
        case rel => exact ⟨j + 1, by omega, by go_num, trivial⟩
        case measure => simp [intOf] <;> omega
    · have hge : (k6 : Int) ≤ j := by omega
      by_cases h0 : k6 = 0
      · have hk0 : k3 = 0 := by
          have h1 := B2.out.2.2.2.2.1
          have h2 := offL_le X
          rw [H.out.1.1] at h2
          omega
        clear hlt hj
        subst h0
        subst hk0
        go_wp2
        go_ret
        exact ⟨rfl, B5.out.2.2.2⟩
      · have hz : ((k6 : Int) == 0) = false := by simp; omega
        have hk1 : 1 ≤ k3 := by
          have h1 := B2.out.2.2.2.2.1
          have h2 : wd (X.getD 0 0) ≤ offL X := by
            have h3 := offL_take X 1
            rw [take_next X (by rw [H.out.1.1]; omega), List.take_zero, List.nil_append] at h3
            simpa [offL] using h3
          have := wd_pos (X.getD 0 0)
          omega
        obtain ⟨K, rfl⟩ : ∃ K, k3 = K + 1 := ⟨k3 - 1, by omega⟩
        have sF := fun w => slice_front Try.underlying26 Try.one_bytes a3 (K + 1) c3 K (by have := B2.out.2.2.1; omega) w
        have eK : ((K + 1 : Nat) : Int) - 1 = K := by omega
        go_wp2_with fail
        have hP5 : BIn wr a3 (K + 1) P := (B2.out.1.below B4.out.2.2.2).below B5.out.2.2.1
        refine (take_of a3 K c3 (P.take K) a0 k6 cap0 X wr (hP5.n.front K (by omega)).b (fun e => by have := B2.out.2.1 e; omega) (by have := B2.out.2.2.1; omega) (H.out.1.below B5.out.2.2.2) (by have := B2.out.2.2.2.2.2; omega) (by have := HN.out; omega)).mono ?_
        have hno : decide (offL X ≤ (P.take K).length) = false := by
          refine decide_eq_false ?_
          have h1 := B2.out.2.2.2.2.1
          rw [List.length_take]
          omega
        rw [hno]
        rintro e w6 ⟨A7, k7, C7, R7, r7, D7, rfl, -, -, b7⟩
        have B7 : Hid (Below w.heap.size w w6) := B5.out.2.2.2.trans (b7.mono B5.out.2.2.2.size)
        clear b7
        go_wp2
        go_ret
        exact ⟨rfl, B7.out⟩

set_option maxRecDepth 100000 in
theorem lifted (os : Os) (started : os.Started) (H : Type) (enc : TypeId × Value → H) :
    ReturnsInHanded {} Try.checked os 5 .any (Rows.wireBackSpec.pre6 enc Try.prog Try.f5 Rows.wireBackRow.domain false) (Rows.wireBackSpec.post enc Try.prog Try.f5 false true false false) := by
  refine returnsInHanded_of_change (C := Try.checked) own started (by kernel_rfl) Try.func5
    (ChangeSpec.witness6 (enc := enc) (C := Try.checked) false ⟨#[], #[.slice none 0 0, .slice none 0 0, .slice none 0 0], []⟩ 8 (by kernel_rfl) (by kernel_rfl) (by kernel_rfl) (by kernel_rfl)) ?_
  intro W base args ds gs before hval0 hW hcnd _
  have hval : ∀ (j : Nat) t v, Try.f5.params[j]? = some t → args[j]? = some v → Value.okWide Try.prog W .any base t v := hval0
  have hW' := hW
  obtain ⟨p, q, hA0, hV, rfl, hfz, hnd⟩ := hW
  have hA : DataW.TrodAll enc Try.prog W 0 (fun _ => true) true Try.f5.params.toList args.toList ds p := hA0
  rw [Try.params5] at hA hval
  obtain ⟨v0, vs0, d0, ds0, p0, q0, hargs, rfl, rfl, h0, r0⟩ := trodAll_cons hA
  obtain ⟨v1, vs1, d1, ds1, p1, q1, rfl, rfl, rfl, h1, r1⟩ := trodAll_cons r0
  obtain ⟨v2, vs2, d2, ds2, p2, q2, rfl, rfl, rfl, h2, r2⟩ := trodAll_cons r1
  obtain ⟨rfl, rfl, rfl⟩ := trodAll_nil r2
  obtain rfl : args = #[v0, v1, v2] := by cases args; simp_all
  obtain ⟨rfl, rfl⟩ := trodVars_none hV
  obtain ⟨a0, len0, cap0, rfl⟩ := okWide_slice Try.underlying22 (hval 0 22 v0 rfl rfl)
  have k0 := h0
  have lt0 : ∀ x ∈ p0, x.block < W.heap.size := by obtain ⟨m, hm⟩ := k0; exact DataW.trod_lt m _ _ _ hm
  obtain ⟨z0, w0⟩ : ∃ zs, IsRow .i64 W a0 len0 cap0 zs := by
    obtain ⟨fuel, hf⟩ := h0
    rcases open_ints Try.underlying22 Try.underlying3 (by kernel_rfl) hf with ⟨hcs, _⟩ | ⟨x, l, c, zs, hcs, _, hl, hm, hz, _, hcell, hwz⟩
    · simp [Value.cells] at hcs
      obtain ⟨rfl, rfl, rfl⟩ := hcs
      exact ⟨[], .inl ⟨rfl, rfl, rfl, rfl⟩⟩
    · simp [Value.cells] at hcs
      obtain ⟨rfl, rfl, rfl⟩ := hcs
      exact ⟨zs, .inr ⟨_, rfl, hl, hm, by simpa using hz, hcell, hwz⟩⟩
  obtain ⟨a1, len1, cap1, rfl⟩ := okWide_slice Try.underlying23 (hval 1 23 v1 rfl rfl)
  have k1 := h1
  have lt1 : ∀ x ∈ p1, x.block < W.heap.size := by obtain ⟨m, hm⟩ := k1; exact DataW.trod_lt m _ _ _ hm
  obtain ⟨z1, w1⟩ : ∃ zs, IsRow .u64 W a1 len1 cap1 zs := by
    obtain ⟨fuel, hf⟩ := h1
    rcases open_ints Try.underlying23 Try.underlying37 (by kernel_rfl) hf with ⟨hcs, _⟩ | ⟨x, l, c, zs, hcs, _, hl, hm, hz, _, hcell, hwz⟩
    · simp [Value.cells] at hcs
      obtain ⟨rfl, rfl, rfl⟩ := hcs
      exact ⟨[], .inl ⟨rfl, rfl, rfl, rfl⟩⟩
    · simp [Value.cells] at hcs
      obtain ⟨rfl, rfl, rfl⟩ := hcs
      exact ⟨zs, .inr ⟨_, rfl, hl, hm, by simpa using hz, hcell, hwz⟩⟩
  obtain ⟨a2, len2, cap2, rfl⟩ := okWide_slice Try.underlying26 (hval 2 26 v2 rfl rfl)
  have k2 := h2
  have lt2 : ∀ x ∈ p2, x.block < W.heap.size := by obtain ⟨m, hm⟩ := k2; exact DataW.trod_lt m _ _ _ hm
  obtain ⟨z2, w2⟩ : ∃ zs, IsRow .u8 W a2 len2 cap2 zs := by
    obtain ⟨fuel, hf⟩ := h2
    rcases open_ints Try.underlying26 Try.underlying5 (by kernel_rfl) hf with ⟨hcs, _⟩ | ⟨x, l, c, zs, hcs, _, hl, hm, hz, _, hcell, hwz⟩
    · simp [Value.cells] at hcs
      obtain ⟨rfl, rfl, rfl⟩ := hcs
      exact ⟨[], .inl ⟨rfl, rfl, rfl, rfl⟩⟩
    · simp [Value.cells] at hcs
      obtain ⟨rfl, rfl, rfl⟩ := hcs
      exact ⟨zs, .inr ⟨_, rfl, hl, hm, by simpa using hz, hcell, hwz⟩⟩
  clear hA0 hval0
  refine (walk a0 len0 cap0 z0 a1 len1 cap1 z1 a2 len2 cap2 z2 W w0 w1 w2).mono fun e W' ⟨he, bel⟩ => ?_
  subst he
  exact ⟨_, rfl, _, _, _, [], _, [], hW', trodAll_mk1 (shut_bool Try.underlying4 _), (trodAll_cons_mk (Below.trod laidOut (by kernel_rfl) (of_decide_eq_true (by kernel_rfl)) k0 bel lt0) (trodAll_cons_mk (Below.trod laidOut (by kernel_rfl) (of_decide_eq_true (by kernel_rfl)) k1 bel lt1) (trodAll_cons_mk (Below.trod laidOut (by kernel_rfl) (of_decide_eq_true (by kernel_rfl)) k2 bel lt2) trodAll_mk0))), rfl, bel.frame _, fun h => by cases h⟩

theorem over : Rows.wireBackRow.holds Try.pinned (OpenSpec.ofChange Rows.wireBackSpec) :=
  OpenClaim.holds_of_wide 5 Try.f5 rfl rfl rfl rfl rfl rfl rfl ⟨rfl, rfl, rfl, rfl, rfl⟩ rfl rfl rfl rfl rfl (by kernel_rfl) Try.func5 (by kernel_rfl)
    (of_decide_eq_true (by kernel_rfl)) (by unfold Func.isWrapper; first | (rw [if_pos (by decide +kernel)]; kernel_rfl) | (rw [if_neg (by decide +kernel)]; exact ⟨rfl, rfl⟩))
    (fun os started H enc _ => lifted os started H enc)

end Go.Proofs.Ytckigbmlpmpmkaa.wireBack
namespace Go.Proofs.Ytckigbmlpmpmkaa
/-- The statement. -/
theorem wireBack_holds : Rows.WireBackSaid := wireBack.over
#print axioms wireBack_holds
end Go.Proofs.Ytckigbmlpmpmkaa
