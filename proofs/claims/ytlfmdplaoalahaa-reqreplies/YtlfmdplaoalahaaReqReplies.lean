/- Replies of any bytes, with any lengths. -/
import Derived.Test.YtlfmdplaoalahaaRows
import Derived.Test.YtlfmdplaoalahaaROpen
import Derived.Test.YtlfmdplaoalahaaRRefRep
import Derived.WalkKit
import Derived.ProofKit
import Derived.OpenShut
import Derived.ShutString
import Derived.ChangeOld
import Derived.Below
namespace Go.Proofs.Ytlfmdplaoalahaa.reqReplies
open Go.ChangeShapes Go.WideShapes Go.ChangeAt Go.RowKit
open Go.ChangeMaps (open_string shut_string)
set_option linter.unusedVariables false

theorem own : ownKnob Try.prog.godebug = none := by kernel_rfl
theorem laidOut : laidOutB Try.prog = true := by kernel_rfl

/-- WHAT THE WALK IS TOLD OF A SLICE OF INTEGERS THAT CAME IN: it is nil; or it leads to a row of 'cap' cells, the numbers 'zs' (the first 'len' are its elements, the rest its spare room), each fitting its kind. -/
def IsRow (k : IntKind) (w : World) (a : Option Addr) (len cap : Nat) (zs : List Int) : Prop :=
  (a = none ∧ len = 0 ∧ cap = 0 ∧ zs = []) ∨
  ∃ x, a = some x ∧ len ≤ cap ∧ cap ≤ maxLen ∧ zs.length = cap ∧ (∀ i, i < zs.length → w.cell? (x.add i) = some (.int k (zs.getD i 0))) ∧ ∀ n ∈ zs, (Lit.int k n).wf = true

theorem nin_drewN {k : IntKind} {w : World} {a : Option Addr} {n : Nat} {zs : List Int} (h : NIn k w a n zs) (j : Nat) : NIn k (w.drewN j) a n zs := h.below (below_drewN (Below.refl _ _) j)
theorem bsin_drewN {w : World} {a : Option Addr} {n : Nat} {Ds : List (List Int)} (h : BsIn w a n Ds) (j : Nat) : BsIn (w.drewN j) a n Ds := h.below (below_drewN (Below.refl _ _) j)
set_option maxHeartbeats 2000000 in
theorem walk (a0 : Option Addr) (len0 cap0 : Nat) (z0 : List Int) (m1 : Option Nat) (f1 : Int → Int) (L1 : Nat) (w : World) (w0 : IsRow .u8 w a0 len0 cap0 z0) (w1 : MIn w (.map m1) f1 ∧ ∀ ty, (Builtin.len_ #[41] ty #[.map m1]).run Try.prog w = .ok (.int .i64 (L1 : Int)) w) :
    Calls Try.prog 5 #[.slice a0 len0 cap0, .map m1] w fun e w' => e = .returned (.bool true) ∧ Below w.heap.size w w' := by
  obtain ⟨hx, hxc, hxn⟩ := row_nin w0
  obtain ⟨X, eX⟩ : ∃ X, X = z0.take len0 := ⟨_, rfl⟩
  rw [← eX] at hx
  obtain ⟨hm, hL⟩ := w1
  have H : Hid (BIn w a0 len0 X ∧ len0 ≤ cap0 ∧ (a0 = none → len0 = 0 ∧ cap0 = 0) ∧ MIn w (.map m1) f1) := ⟨hx.b, hxc, hxn, hm⟩
  clear hx eX w0 hxc hxn hm
  by_cases h1 : (2000 : Int) < len0
  · have d1 : decide ((2000 : Int) < len0) = true := decide_eq_true h1
    go_enter Try.func5, Try.ntmps5
    go_wp2
    go_ret
    exact ⟨rfl, Below.refl _ _⟩
  have d1 : decide ((2000 : Int) < len0) = false := decide_eq_false h1
  by_cases h2 : (100 : Int) < L1
  · have d2 : decide ((100 : Int) < L1) = true := decide_eq_true h2
    go_enter Try.func5, Try.ntmps5
    go_wp2
    go_ret
    exact ⟨rfl, Below.refl _ _⟩
  have d2 : decide ((100 : Int) < L1) = false := decide_eq_false h2
  have n1 : len0 ≤ 2000 := by omega
  have HN : Hid (len0 ≤ 2000) := n1
  obtain ⟨Q, hQ⟩ : ∃ Q, Q = rpList f1 X := ⟨_, rfl⟩
  obtain ⟨B, hB⟩ : ∃ B, B = rpIs f1 X := ⟨_, rfl⟩
  have HL : Hid (Q = rpList f1 X ∧ B = rpIs f1 X) := ⟨hQ, hB⟩
  have hbb : (B != B) = false := by cases B <;> rfl
  clear hQ hB h1 h2
  go_enter Try.func5, Try.ntmps5
  go_wp2_with fail
  refine (replies_of a0 len0 cap0 X (.map m1) f1 w H.out.1 H.out.2.2.1 H.out.2.1 H.out.2.2.2 (by have := HN.out; omega)).mono ?_
  rw [← HL.out.1, ← HL.out.2]
  rintro e V1 ⟨A1, k, C1, A2, C2, A3, C3, rfl, p1, p2, p3, b1⟩
  have H1 : Hid (NIn .u32 V1 A1 k (Q.map Rp.a) ∧ NIn .u64 V1 A2 k (Q.map Rp.c) ∧ BsIn V1 A3 k (Q.map Rp.d) ∧ Below w.heap.size w V1) := ⟨p1, p2, p3, b1⟩
  clear p1 p2 p3 b1
  go_wp2_with fail
  refine (dReplies_of a0 len0 cap0 X (.map m1) f1 V1 (H.out.1.below H1.out.2.2.2) H.out.2.2.1 H.out.2.1 (H.out.2.2.2.below H1.out.2.2.2) (by have := HN.out; omega)).mono ?_
  rw [← HL.out.1, ← HL.out.2]
  rintro e V2 ⟨A4, k4, C4, A5, C5, A6, C6, rfl, p1, p2, p3, b2⟩
  have hk4 : k4 = k := by rw [← p1.1, ← H1.out.1.1]
  subst hk4
  have hkb : k4 ≤ 1000000 := by
    have h1 := p1.1
    rw [List.length_map] at h1
    rw [← h1, HL.out.1]
    exact rp_few f1 X (by rw [H.out.1.1]; omega)
  have H2 : Hid (NIn .u32 V2 A1 k4 (Q.map Rp.a) ∧ NIn .u64 V2 A2 k4 (Q.map Rp.c) ∧ BsIn V2 A3 k4 (Q.map Rp.d) ∧ Below w.heap.size w V2 ∧ NIn .u32 V2 A4 k4 (Q.map Rp.a) ∧ NIn .u64 V2 A5 k4 (Q.map Rp.c) ∧ BsIn V2 A6 k4 (Q.map Rp.d)) := ⟨H1.out.1.below b2, H1.out.2.1.below b2, H1.out.2.2.1.below b2, below_via H1.out.2.2.2 (Nat.le_refl _) b2, p1, p2, p3⟩
  clear p1 p2 p3 b2
  go_wp2_with fail
  refine (sameNumbers_of A2 k4 C2 (Q.map Rp.c) A5 k4 C5 (Q.map Rp.c) V2 H2.out.2.1 H2.out.2.2.2.2.2.1 rfl hkb).mono ?_
  rintro e V3 ⟨rfl, j3, rfl⟩
  go_wp2_with fail
  refine (sameBlocks_of A3 k4 C3 A6 k4 C6 (Q.map Rp.d) (V2.drewN j3) (bsin_drewN H2.out.2.2.1 j3) (bsin_drewN H2.out.2.2.2.2.2.2 j3) hkb).mono ?_
  rintro e V4 ⟨rfl, j4, hV4⟩
  have H4 : Hid (NIn .u32 V4 A1 k4 (Q.map Rp.a) ∧ NIn .u32 V4 A4 k4 (Q.map Rp.a) ∧ Below w.heap.size w V4) := by
    rw [hV4]
    exact ⟨nin_drewN (nin_drewN H2.out.1 _) _, nin_drewN (nin_drewN H2.out.2.2.2.2.1 _) _, below_drewN (below_drewN H2.out.2.2.2.1 _) _⟩
  clear hV4
  go_wp2
  go_loopw [13] (fun i wr => ∃ (j d : Nat), j ≤ k4 ∧ i = .int .i64 j ∧ wr = V4.drewN d)
    (fun i _ => k4 - (intOf i).toNat)
  case atStart => exact ⟨0, 0, by omega, rfl, rfl⟩
  case round =>
    obtain ⟨j, d, hj, rfl, rfl⟩ := hrel
    by_cases hlt : j < k4
    · have hlt' : (j : Int) < k4 := by omega
      obtain ⟨b1, o1, rfl, hc1⟩ := H4.out.1.2.2.2.resolve_left (by omega)
      obtain ⟨b2, o2, rfl, hc2⟩ := H4.out.2.1.2.2.2.resolve_left (by omega)
      have c1 := hc1 j hlt
      have c2 := hc2 j hlt
      obtain ⟨x, ex⟩ : ∃ x, x = (Q.map Rp.a).getD j 0 := ⟨_, rfl⟩
      rw [← ex] at c1 c2
      clear hc1 hc2 ex
      go_wp2
      go_quiet (fail)
      go_wp2
      go_roundw
      case rel => exact ⟨j + 1, _, by omega, by go_num, rfl⟩
      case measure => simp [intOf]; omega
    · have hge : (k4 : Int) ≤ j := by omega
      go_wp2_with fail
      refine (rknown_any _).mono ?_
      rintro e V9 ⟨rfl, b9⟩
      have H9 : Hid (Below w.heap.size w V9) := below_via (below_drewN H4.out.2.2 d) (Nat.le_refl _) b9
      clear b9
      go_wp2
      go_ret
      exact ⟨rfl, H9.out⟩

set_option maxRecDepth 100000 in
theorem lifted (os : Os) (started : os.Started) (H : Type) (enc : TypeId × Value → H) :
    ReturnsInHanded {} Try.checked os 5 .any (Rows.reqRepliesSpec.pre6 enc Try.prog Try.f5 Rows.reqRepliesRow.domain false) (Rows.reqRepliesSpec.post enc Try.prog Try.f5 false true false false) := by
  refine returnsInHanded_of_change (C := Try.checked) own started (by kernel_rfl) Try.func5
    (ChangeSpec.witness6 (enc := enc) (C := Try.checked) false ⟨#[], #[.slice none 0 0, .map none], []⟩ 8 (by kernel_rfl) (by kernel_rfl) (by kernel_rfl) (by kernel_rfl)) ?_
  intro W base args ds gs before hval0 hW hcnd _
  have hval : ∀ (j : Nat) t v, Try.f5.params[j]? = some t → args[j]? = some v → Value.okWide Try.prog W .any base t v := hval0
  have hW' := hW
  obtain ⟨p, q, hA0, hV, rfl, hfz, hnd⟩ := hW
  have hA : DataW.TrodAll enc Try.prog W 0 (fun _ => true) true Try.f5.params.toList args.toList ds p := hA0
  rw [Try.params5] at hA hval
  obtain ⟨v0, vs0, d0, ds0, p0, q0, hargs, rfl, rfl, h0, r0⟩ := trodAll_cons hA
  obtain ⟨v1, vs1, d1, ds1, p1, q1, rfl, rfl, rfl, h1, r1⟩ := trodAll_cons r0
  obtain ⟨rfl, rfl, rfl⟩ := trodAll_nil r1
  obtain rfl : args = #[v0, v1] := by cases args; simp_all
  obtain ⟨rfl, rfl⟩ := trodVars_none hV
  obtain ⟨a0, len0, cap0, rfl⟩ := okWide_slice Try.underlying22 (hval 0 22 v0 rfl rfl)
  have k0 := h0
  have lt0 : ∀ x ∈ p0, x.block < W.heap.size := by obtain ⟨m, hm⟩ := k0; exact DataW.trod_lt m _ _ _ hm
  obtain ⟨z0, w0⟩ : ∃ zs, IsRow .u8 W a0 len0 cap0 zs := by
    obtain ⟨fuel, hf⟩ := h0
    rcases open_ints Try.underlying22 Try.underlying5 (by kernel_rfl) hf with ⟨hcs, _⟩ | ⟨x, l, c, zs, hcs, _, hl, hm, hz, _, hcell, hwz⟩
    · simp [Value.cells] at hcs
      obtain ⟨rfl, rfl, rfl⟩ := hcs
      exact ⟨[], .inl ⟨rfl, rfl, rfl, rfl⟩⟩
    · simp [Value.cells] at hcs
      obtain ⟨rfl, rfl, rfl⟩ := hcs
      exact ⟨zs, .inr ⟨_, rfl, hl, hm, by simpa using hz, hcell, hwz⟩⟩
  obtain ⟨m1, rfl⟩ := okWide_map Try.underlying41 (hval 1 41 v1 rfl rfl)
  have k1 := h1
  have lt1 : ∀ x ∈ p1, x.block < W.heap.size := by obtain ⟨m, hm⟩ := k1; exact DataW.trod_lt m _ _ _ hm
  obtain ⟨f1, L1, w1⟩ := open_rmap h1
  clear hA0 hval0
  refine (walk a0 len0 cap0 z0 m1 f1 L1 W w0 w1).mono fun e W' ⟨he, bel⟩ => ?_
  subst he
  exact ⟨_, rfl, _, _, _, [], _, [], hW', trodAll_mk1 (shut_bool Try.underlying4 _), (trodAll_cons_mk (Below.trod laidOut (by kernel_rfl) (of_decide_eq_true (by kernel_rfl)) k0 bel lt0) (trodAll_cons_mk (Below.trod laidOut (by kernel_rfl) (of_decide_eq_true (by kernel_rfl)) k1 bel lt1) trodAll_mk0)), rfl, bel.frame _, fun h => by cases h⟩

theorem over : Rows.reqRepliesRow.holds Try.pinned (OpenSpec.ofChange Rows.reqRepliesSpec) :=
  OpenClaim.holds_of_wide 5 Try.f5 rfl rfl rfl rfl rfl rfl rfl ⟨rfl, rfl, rfl, rfl, rfl⟩ rfl rfl rfl rfl rfl (by kernel_rfl) Try.func5 (by kernel_rfl)
    (of_decide_eq_true (by kernel_rfl)) (by unfold Func.isWrapper; first | (rw [if_pos (by decide +kernel)]; kernel_rfl) | (rw [if_neg (by decide +kernel)]; exact ⟨rfl, rfl⟩))
    (fun os started H enc _ => lifted os started H enc)

end Go.Proofs.Ytlfmdplaoalahaa.reqReplies
namespace Go.Proofs.Ytlfmdplaoalahaa
/-- The statement. -/
theorem reqReplies_holds : Rows.ReqRepliesSaid := reqReplies.over
#print axioms reqReplies_holds
end Go.Proofs.Ytlfmdplaoalahaa
