/- Proved: whatever two lists of bytes and byte CrcParts of layer 1 is handed, it returns true, and its arguments read as before: lists one behind the other have the sum of one that is both, and a byte more is Next. -/
import Derived.Test.YtleejamgpdejoaaRows
import Derived.Test.YtleejamgpdejoaaApp
import Derived.WalkKit
import Derived.ProofKit
import Derived.OpenShut
import Derived.ShutString
import Derived.ChangeOld
import Derived.Below
namespace Go.Proofs.Ytleejamgpdejoaa.crcParts
open Go.ChangeShapes Go.WideShapes Go.ChangeAt Go.RowKit
open Go.ChangeMaps (open_string shut_string)
set_option linter.unusedVariables false

theorem own : ownKnob Try.prog.godebug = none := by kernel_rfl
theorem laidOut : laidOutB Try.prog = true := by kernel_rfl

/-- WHAT THE WALK IS TOLD OF A SLICE OF INTEGERS THAT CAME IN: it is nil; or it leads to a row of 'cap' cells, the numbers 'zs' (the first 'len' are its elements, the rest its spare room), each fitting its kind. -/
def IsRow (k : IntKind) (w : World) (a : Option Addr) (len cap : Nat) (zs : List Int) : Prop :=
  (a = none ∧ len = 0 ∧ cap = 0 ∧ zs = []) ∨
  ∃ x, a = some x ∧ len ≤ cap ∧ cap ≤ maxLen ∧ zs.length = cap ∧ (∀ i, i < zs.length → w.cell? (x.add i) = some (.int k (zs.getD i 0))) ∧ ∀ n ∈ zs, (Lit.int k n).wf = true

theorem nil_of {w : World} {a : Option Addr} {len cap : Nat} {zs : List Int} (h : IsRow .u8 w a len cap zs) : a = none → len = 0 ∧ cap = 0 := by
  intro ha
  rcases h with ⟨_, h1, h2, _⟩ | ⟨x, h1, _⟩
  · exact ⟨h1, h2⟩
  · rw [ha] at h1; cases h1
theorem parts_two {w W1 W2 : World} {a0 a1 A : Option Addr} {len0 len1 cap0 cap1 C : Nat} {Z0 Z1 : List Int} (h0 : Lst.In ⟨a0, len0, cap0, Z0⟩ w) (h1 : Lst.In ⟨a1, len1, cap1, Z1⟩ w)
    (hf : ∀ z ∈ Z0 ++ Z1, Fits8 z) (hl0 : len0 ≤ 2000) (hl1 : len1 ≤ 2000) (bl1 : Below w.heap.size w W1)
    (ow2 : W2.ownsRow w.heap.size 5 1 (.slice A (len0 + len1) C) (len0 + len1) (bytesV (Z0 ++ Z1))) (bl2 : Below w.heap.size W1 W2) :
    Below w.heap.size w W2 ∧ Lst.In ⟨a0, len0, cap0, Z0⟩ W2 ∧ Lst.In ⟨a1, len1, cap1, Z1⟩ W2 ∧ Lst.In ⟨A, len0 + len1, C, Z0 ++ Z1⟩ W2 :=
  have b := bl1.trans bl2
  ⟨b, h0.below b, h1.below b, own_in ow2 (by unfold maxLen; omega) hf⟩
theorem parts_three {w W2 W3 : World} {o : Obj} {l0 l1 l2 : Lst} (b2 : Below w.heap.size w W2) (g0 : l0.In W2) (g1 : l1.In W2) (g2 : l2.In W2)
    (b3 : Below (W2.alloc o).heap.size (W2.alloc o) W3) : Below w.heap.size w W3 ∧ l0.In W3 ∧ l1.In W3 ∧ l2.In W3 := by
  refine ⟨(b2.alloc b2.size o).trans (b3.mono ?_), (g0.alloc o).below b3, (g1.alloc o).below b3, (g2.alloc o).below b3⟩
  have := b2.size
  simp
  omega
set_option maxHeartbeats 1000000 in
theorem walk (a0 : Option Addr) (len0 cap0 : Nat) (z0 : List Int) (a1 : Option Addr) (len1 cap1 : Nat) (z1 : List Int) (a2 : Int) (w : World) (w0 : IsRow .u8 w a0 len0 cap0 z0) (w1 : IsRow .u8 w a1 len1 cap1 z1) (w2 : (Lit.int .u8 a2).wf = true) :
    Calls Try.prog 4 #[.slice a0 len0 cap0, .slice a1 len1 cap1, .int .u8 a2] w fun e w' => e = .returned (.bool true) ∧ Below w.heap.size w w' := by
  have h0 := row_in w0
  have h1 := row_in w1
  have n0 := nil_of w0
  have n1 := nil_of w1
  have f2 := fits8_wf w2
  by_cases l0 : (2000 : Int) < len0
  · go_enter Try.func4, Try.ntmps4
    go_wp2
    go_ret
    exact ⟨rfl, Below.refl _ _⟩
  · by_cases l1 : (2000 : Int) < len1
    · go_enter Try.func4, Try.ntmps4
      go_wp2
      go_ret
      exact ⟨rfl, Below.refl _ _⟩
    · obtain ⟨Z0, hZ0⟩ : ∃ Z, Z = z0.take len0 := ⟨_, rfl⟩
      obtain ⟨Z1, hZ1⟩ : ∃ Z, Z = z1.take len1 := ⟨_, rfl⟩
      rw [← hZ0] at h0
      rw [← hZ1] at h1
      clear hZ0 hZ1 w0 w1
      have hf : ∀ z ∈ Z0 ++ Z1, Fits8 z := by
        intro z hz
        rcases List.mem_append.1 hz with hz | hz
        · exact h0.2.2.1 z hz
        · exact h1.2.2.1 z hz
      have HF : Hid (∀ z ∈ Z0 ++ Z1, Fits8 z) := hf
      have hS : Fits32 (sumI 0 (Z0 ++ Z1)) := sumI_fits fits0 hf
      clear hf
      have hl0 : len0 ≤ 2000 := by omega
      have hl1 : len1 ≤ 2000 := by omega
      go_enter Try.func4, Try.ntmps4
      go_wp2_with (first
        | (at_builtin; refine wpList_append_lst rfl (.tmp 17) (.tmp 18) rfl w.heap.size none 0 0 [] rfl (World.ownsRow_nil _ _ _ _) a0 len0 cap0 Z0 rfl h0 n0 (by omega) (Nat.le_refl _) ?_; intro a' c' W1 ow1 bl1; simp only [Nat.zero_add, List.nil_append] at ow1 ⊢)
        | (at_builtin; refine wpList_append_lst rfl (.tmp 20) (.tmp 21) rfl w.heap.size a' len0 c' Z0 rfl ow1 a1 len1 cap1 Z1 rfl (h1.below bl1) n1 (by omega) bl1.size ?_; intro A C W2 ow2 bl2; have g := parts_two h0 h1 HF.out hl0 hl1 bl1 ow2 bl2; obtain ⟨b2, g0, g1, g2⟩ := g; clear ow1 ow2 bl1 bl2))
      refine (sum_two W2 g0 g1).mono ?_
      rintro e w' ⟨rfl, rfl⟩
      go_wp2_with (go_at_call 7; refine (known_any _).mono ?_; rintro e W3 ⟨rfl, b3⟩; have g := parts_three b2 g0 g1 g2 b3; obtain ⟨k3, k0, k1, k2⟩ := g; clear b3)
      refine (sum_one W3 k2).mono ?_
      rintro e w' ⟨rfl, rfl⟩
      go_wp2_with fail
      refine (sum_three _ (W3.heap.size + 1) (by simp) (k0.alloc _) (k1.alloc _) f2).mono ?_
      rintro e w' ⟨rfl, rfl⟩
      go_wp2_with (go_at_call 10; refine (next_any _ _ _ hS f2).mono ?_; rintro e w' ⟨rfl, rfl⟩)
      go_ret
      have hz := k3.size
      exact ⟨rfl, ((k3.alloc hz _).alloc (by simp; omega) _).alloc (by simp; omega) _⟩

set_option maxRecDepth 100000 in
theorem lifted (os : Os) (started : os.Started) (H : Type) (enc : TypeId × Value → H) :
    ReturnsInHanded {} Try.checked os 4 .any (Rows.crcPartsSpec.pre6 enc Try.prog Try.f4 Rows.crcPartsRow.domain false) (Rows.crcPartsSpec.post enc Try.prog Try.f4 false true false false) := by
  refine returnsInHanded_of_change (C := Try.checked) own started (by kernel_rfl) Try.func4
    (ChangeSpec.witness6 (enc := enc) (C := Try.checked) false ⟨#[], #[.slice none 0 0, .slice none 0 0, .int .u8 0], []⟩ 8 (by kernel_rfl) (by kernel_rfl) (by kernel_rfl) (by kernel_rfl)) ?_
  intro W base args ds gs before hval0 hW hcnd _
  have hval : ∀ (j : Nat) t v, Try.f4.params[j]? = some t → args[j]? = some v → Value.okWide Try.prog W .any base t v := hval0
  have hW' := hW
  obtain ⟨p, q, hA0, hV, rfl, hfz, hnd⟩ := hW
  have hA : DataW.TrodAll enc Try.prog W 0 (fun _ => true) true Try.f4.params.toList args.toList ds p := hA0
  rw [Try.params4] at hA hval
  obtain ⟨v0, vs0, d0, ds0, p0, q0, hargs, rfl, rfl, h0, r0⟩ := trodAll_cons hA
  obtain ⟨v1, vs1, d1, ds1, p1, q1, rfl, rfl, rfl, h1, r1⟩ := trodAll_cons r0
  obtain ⟨v2, vs2, d2, ds2, p2, q2, rfl, rfl, rfl, h2, r2⟩ := trodAll_cons r1
  obtain ⟨rfl, rfl, rfl⟩ := trodAll_nil r2
  obtain rfl : args = #[v0, v1, v2] := by cases args; simp_all
  obtain ⟨rfl, rfl⟩ := trodVars_none hV
  obtain ⟨a0, len0, cap0, rfl⟩ := okWide_slice Try.underlying22 (hval 0 22 v0 rfl rfl)
  have k0 := h0
  have lt0 : ∀ x ∈ p0, x.block < W.heap.size := by obtain ⟨m, hm⟩ := k0; exact DataW.trod_lt m _ _ _ hm
  obtain ⟨z0, w0⟩ : ∃ zs, IsRow .u8 W a0 len0 cap0 zs := by
    obtain ⟨fuel, hf⟩ := h0
    rcases open_ints Try.underlying22 Try.underlying5 (by kernel_rfl) hf with ⟨hcs, _⟩ | ⟨x, l, c, zs, hcs, _, hl, hm, hz, _, hcell, hwz⟩
    · simp [Value.cells] at hcs
      obtain ⟨rfl, rfl, rfl⟩ := hcs
      exact ⟨[], .inl ⟨rfl, rfl, rfl, rfl⟩⟩
    · simp [Value.cells] at hcs
      obtain ⟨rfl, rfl, rfl⟩ := hcs
      exact ⟨zs, .inr ⟨_, rfl, hl, hm, by simpa using hz, hcell, hwz⟩⟩
  obtain ⟨a1, len1, cap1, rfl⟩ := okWide_slice Try.underlying22 (hval 1 22 v1 rfl rfl)
  have k1 := h1
  have lt1 : ∀ x ∈ p1, x.block < W.heap.size := by obtain ⟨m, hm⟩ := k1; exact DataW.trod_lt m _ _ _ hm
  obtain ⟨z1, w1⟩ : ∃ zs, IsRow .u8 W a1 len1 cap1 zs := by
    obtain ⟨fuel, hf⟩ := h1
    rcases open_ints Try.underlying22 Try.underlying5 (by kernel_rfl) hf with ⟨hcs, _⟩ | ⟨x, l, c, zs, hcs, _, hl, hm, hz, _, hcell, hwz⟩
    · simp [Value.cells] at hcs
      obtain ⟨rfl, rfl, rfl⟩ := hcs
      exact ⟨[], .inl ⟨rfl, rfl, rfl, rfl⟩⟩
    · simp [Value.cells] at hcs
      obtain ⟨rfl, rfl, rfl⟩ := hcs
      exact ⟨zs, .inr ⟨_, rfl, hl, hm, by simpa using hz, hcell, hwz⟩⟩
  obtain ⟨a2, rfl, rfl, rfl, w2⟩ := open_int Try.underlying5 (hval 2 5 v2 rfl rfl) h2
  clear hA0 hval0
  refine (walk a0 len0 cap0 z0 a1 len1 cap1 z1 a2 W w0 w1 w2).mono fun e W' ⟨he, bel⟩ => ?_
  subst he
  exact ⟨_, rfl, _, _, _, [], _, [], hW', trodAll_mk1 (shut_bool Try.underlying4 _), (trodAll_cons_mk (Below.trod laidOut (by kernel_rfl) (of_decide_eq_true (by kernel_rfl)) k0 bel lt0) (trodAll_cons_mk (Below.trod laidOut (by kernel_rfl) (of_decide_eq_true (by kernel_rfl)) k1 bel lt1) (trodAll_cons_mk (shut_int Try.underlying5 w2) trodAll_mk0))), rfl, bel.frame _, fun h => by cases h⟩

theorem over : Rows.crcPartsRow.holds Try.pinned (OpenSpec.ofChange Rows.crcPartsSpec) :=
  OpenClaim.holds_of_wide 4 Try.f4 rfl rfl rfl rfl rfl rfl rfl ⟨rfl, rfl, rfl, rfl, rfl⟩ rfl rfl rfl rfl rfl (by kernel_rfl) Try.func4 (by kernel_rfl)
    (of_decide_eq_true (by kernel_rfl)) (by unfold Func.isWrapper; first | (rw [if_pos (by decide +kernel)]; kernel_rfl) | (rw [if_neg (by decide +kernel)]; exact ⟨rfl, rfl⟩))
    (fun os started H enc _ => lifted os started H enc)

end Go.Proofs.Ytleejamgpdejoaa.crcParts
namespace Go.Proofs.Ytleejamgpdejoaa
/-- The statement. -/
theorem crcParts_holds : Rows.CrcPartsSaid := crcParts.over
#print axioms crcParts_holds
end Go.Proofs.Ytleejamgpdejoaa
