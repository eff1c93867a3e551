/- Proved: whatever bytes, place and byte CrcByte of layer 1 is handed, it returns true, and its arguments read as before: of bytes in which just one is another one the sum is another one. -/
import Derived.Test.YtleejamgpdejoaaRows
import Derived.Test.YtleejamgpdejoaaApp
import Derived.Deep.RegionHeld3
import Derived.WalkKit
import Derived.ProofKit
import Derived.OpenShut
import Derived.ShutString
import Derived.ChangeOld
import Derived.Below
namespace Go.Proofs.Ytleejamgpdejoaa.crcByte
open Go.ChangeShapes Go.WideShapes Go.ChangeAt Go.RowKit
open Go.ChangeMaps (open_string shut_string)
set_option linter.unusedVariables false

theorem own : ownKnob Try.prog.godebug = none := by kernel_rfl
theorem laidOut : laidOutB Try.prog = true := by kernel_rfl

/-- WHAT THE WALK IS TOLD OF A SLICE OF INTEGERS THAT CAME IN: it is nil; or it leads to a row of 'cap' cells, the numbers 'zs' (the first 'len' are its elements, the rest its spare room), each fitting its kind. -/
def IsRow (k : IntKind) (w : World) (a : Option Addr) (len cap : Nat) (zs : List Int) : Prop :=
  (a = none ∧ len = 0 ∧ cap = 0 ∧ zs = []) ∨
  ∃ x, a = some x ∧ len ≤ cap ∧ cap ≤ maxLen ∧ zs.length = cap ∧ (∀ i, i < zs.length → w.cell? (x.add i) = some (.int k (zs.getD i 0))) ∧ ∀ n ∈ zs, (Lit.int k n).wf = true

theorem nil_of {w : World} {a : Option Addr} {len cap : Nat} {zs : List Int} (h : IsRow .u8 w a len cap zs) : a = none → len = 0 ∧ cap = 0 := by
  intro ha
  rcases h with ⟨_, h1, h2, _⟩ | ⟨x, h1, _⟩
  · exact ⟨h1, h2⟩
  · rw [ha] at h1; cases h1
theorem byte_set {w W W1 : World} {a0 A : Option Addr} {len0 cap0 C t : Nat} {Z : List Int} {z : Int} (h0 : Lst.In ⟨a0, len0, cap0, Z⟩ w) (hl0 : len0 ≤ 2000) (htl : t < len0) (f2 : Fits8 z)
    (bl : Below w.heap.size w W) (bl1 : Below w.heap.size W W1) (ow1 : W1.ownsRow w.heap.size 5 1 (.slice A len0 C) len0 (bytesV Z)) :
    ∃ g, A = some ⟨g, 0, none⟩ ∧ W1.cell? ⟨g, t, none⟩ = some (.int .u8 (Z.getD t 0)) ∧ W1.frozen? ⟨g, t, none⟩ = false ∧
      Below w.heap.size w (W1.setCell ⟨g, t, none⟩ (.int .u8 z)) ∧ Lst.In ⟨a0, len0, cap0, Z⟩ (W1.setCell ⟨g, t, none⟩ (.int .u8 z)) ∧
      Lst.In ⟨some ⟨g, 0, none⟩, len0, C, Z.set t z⟩ (W1.setCell ⟨g, t, none⟩ (.int .u8 z)) := by
  obtain ⟨g, hA, hb, hlt, hc, hf, hin⟩ := own_set ow1 htl (by unfold maxLen; omega) h0.2.2.1 z f2
  have hbb : Below w.heap.size w (W1.setCell ⟨g, t, none⟩ (.int .u8 z)) := (bl.trans bl1).setCell (by exact hb) _
  exact ⟨g, hA, hc, hf, hbb, h0.below hbb, hin⟩
theorem byte_turn {a0 : Option Addr} {w : World} {len0 cap0 t : Nat} {Z : List Int} {z : Int} (h0 : Lst.In ⟨a0, len0, cap0, Z⟩ w) (htl : t < len0) (f2 : Fits8 z) :
    (sumI 0 Z == sumI 0 (Z.set t z)) = (Z.getD t 0 == z) := by
  have hl : Z.length = len0 := h0.1
  have hf : ∀ z ∈ Z, Fits8 z := h0.2.2.1
  have hg : Z.getD t 0 = Z[t] := by simp [List.getD, hl, htl]
  have e1 : Z = Z.take t ++ Z[t] :: Z.drop (t + 1) := by simp
  have e2 : Z.set t z = Z.take t ++ z :: Z.drop (t + 1) := by rw [List.set_eq_take_append_cons_drop, if_pos (by omega)]
  rw [Bool.eq_iff_iff, beq_iff_eq, beq_iff_eq, hg]
  constructor
  · intro h
    rw [e2] at h
    have h' : sumI 0 (Z.take t ++ Z[t] :: Z.drop (t + 1)) = sumI 0 (Z.take t ++ z :: Z.drop (t + 1)) := by rw [← e1]; exact h
    exact sumI_other fits0 (fits_take hf t) (fun y hy => hf y (List.mem_of_mem_drop hy)) (hf _ (List.getElem_mem _)) f2 h'
  · intro h
    rw [← h, List.set_getElem_self]
theorem sum_cell' {a : Option Addr} {len cap g c : Nat} {zs : List Int} {s : Int} (w : World) (hs : s = sumI 0 zs) (hc : w.cell? ⟨g, 0, none⟩ = some (.slice a len cap)) (h : Lst.In ⟨a, len, cap, zs⟩ w) :
    Calls Try.prog 8 #[.slice (some ⟨g, 0, none⟩) 1 c] w fun e w' => e = .returned (.int .u32 s) ∧ w' = w := by
  subst hs; exact sum_cell w hc h
set_option maxHeartbeats 1000000 in
theorem walk (a0 : Option Addr) (len0 cap0 : Nat) (z0 : List Int) (a1 : Int) (a2 : Int) (w : World) (w0 : IsRow .u8 w a0 len0 cap0 z0) (w1 : (Lit.int .i64 a1).wf = true) (w2 : (Lit.int .u8 a2).wf = true) :
    Calls Try.prog 5 #[.slice a0 len0 cap0, .int .i64 a1, .int .u8 a2] w fun e w' => e = .returned (.bool true) ∧ Below w.heap.size w w' := by
  have h0 := row_in w0
  have f2 := fits8_wf w2
  have bk := bounds_i64 w1
  by_cases l0 : (2000 : Int) < len0
  · go_enter Try.func5, Try.ntmps5
    go_wp2_with (go_at_call 7; refine (known_any _).mono ?_; rintro e W ⟨rfl, b⟩)
    go_ret
    exact ⟨rfl, b⟩
  · by_cases l1 : len0 = 0
    · subst l1
      go_enter Try.func5, Try.ntmps5
      go_wp2_with (go_at_call 7; refine (known_any _).mono ?_; rintro e W ⟨rfl, b⟩)
      go_ret
      exact ⟨rfl, b⟩
    · have hne : ((len0 : Int) == 0) = false := by simp; omega
      have hp : (0 : Int) < len0 := by omega
      have hl0 : len0 ≤ 2000 := by omega
      obtain ⟨M, hM⟩ : ∃ M, (if a1 < 0 then (0 : Int) else a1) = M := ⟨_, rfl⟩
      have hM0 : 0 ≤ M := by rw [← hM]; split <;> omega
      have hM1 : M ≤ 9223372036854775807 := by rw [← hM]; split <;> omega
      obtain ⟨t, ht⟩ : ∃ t : Nat, M % (len0 : Int) = t := ⟨(M % (len0 : Int)).toNat, by rw [Int.toNat_of_nonneg (Int.emod_nonneg _ (by omega))]⟩
      have htl : t < len0 := by have := Int.emod_lt_of_pos M hp; omega
      have htl' : (t : Int) < len0 := by omega
      obtain ⟨Z, hZ⟩ : ∃ Z, Z = z0.take len0 := ⟨_, rfl⟩
      rw [← hZ] at h0
      have hnil := nil_of w0
      clear hZ w0
      obtain ⟨b, off, ha, hcell⟩ := h0.2.2.2.resolve_left l1
      replace ha : a0 = some ⟨b, off, none⟩ := ha
      subst ha
      have hct : w.cell? ⟨b, off + t, none⟩ = some (.int .u8 (Z.getD t 0)) := hcell t htl
      clear hcell
      go_enter Try.func5, Try.ntmps5
      go_wp2_with (first | (go_at_call 7; refine (known_any _).mono ?_; rintro e W ⟨rfl, bl⟩) | (at_builtin; refine wpList_append_lst rfl (.tmp 27) (.tmp 28) rfl w.heap.size none 0 0 [] rfl (World.ownsRow_nil _ _ _ _) _ len0 cap0 Z rfl (h0.below bl) hnil (by omega) bl.size ?_; intro A C W1 ow1 bl1; simp only [Nat.zero_add, List.nil_append] at ow1 ⊢; have gs := byte_set h0 hl0 htl f2 bl bl1 ow1; obtain ⟨g, hA, hg1, hg2, hbb, hin0, hin1⟩ := gs; subst hA; clear ow1))
      obtain ⟨y, hy⟩ : ∃ y, y = Z.getD t 0 := ⟨_, rfl⟩
      have e := byte_turn h0 htl f2
      rw [← hy] at e hct
      have hctV : (W1.setCell ⟨g, t, none⟩ (.int .u8 a2)).cell? ⟨b, off + t, none⟩ = some (.int .u8 y) := by rw [hbb.cell (old_block hct)]; exact hct
      have hne' := World.new_ne _ _ hctV
      clear hg1 hg2 hct hy h0 bl bl1 bk hM hM0 hM1 ht w1 w2
      generalize W1.setCell ⟨g, t, none⟩ (.int .u8 a2) = V at hbb hin0 hin1 hctV hne' ⊢
      obtain ⟨S0, hS0⟩ : ∃ x, x = sumI 0 Z := ⟨_, rfl⟩
      obtain ⟨S1, hS1⟩ : ∃ x, x = sumI 0 (Z.set t a2) := ⟨_, rfl⟩
      have c0 := fun (W : World) (g' c' : Nat) hc hi => sum_cell' (a := some ⟨b, off, none⟩) (len := len0) (cap := cap0) (g := g') (c := c') (s := S0) W hS0 hc hi
      have c1 := fun (W : World) (g' c' : Nat) hc hi => sum_cell' (a := some ⟨g, 0, none⟩) (len := len0) (cap := C) (g := g') (c := c') (s := S1) W hS1 hc hi
      rw [← hS0, ← hS1] at e
      clear hS0 hS1
      go_region_held3 (fun w' => w'.cell? ⟨b, off + t, none⟩ = some (.int .u8 y)) (go_keep)
        (first | (go_at_call 8; refine (c0 _ _ _ ?_ ?_).mono ?_; (focus (simp [go_sem]; done)); (focus ((repeat (first | exact hin0 | apply Lst.In.drew | apply Lst.In.alloc)); done)); rintro e w' ⟨rfl, rfl⟩) | (go_at_call 8; refine (c1 _ _ _ ?_ ?_).mono ?_; (focus (simp [go_sem]; done)); (focus ((repeat (first | exact hin1 | apply Lst.In.drew | apply Lst.In.alloc)); done)); rintro e w' ⟨rfl, rfl⟩))
      all_goals go_wp2
      all_goals
        go_ret
        have hz := hbb.size
        exact ⟨rfl, by repeat (first | exact hbb | apply Below.drew | (refine Below.alloc ?_ (by first | omega | (simp; omega)) _))⟩

set_option maxRecDepth 100000 in
theorem lifted (os : Os) (started : os.Started) (H : Type) (enc : TypeId × Value → H) :
    ReturnsInHanded {} Try.checked os 5 .any (Rows.crcByteSpec.pre6 enc Try.prog Try.f5 Rows.crcByteRow.domain false) (Rows.crcByteSpec.post enc Try.prog Try.f5 false true false false) := by
  refine returnsInHanded_of_change (C := Try.checked) own started (by kernel_rfl) Try.func5
    (ChangeSpec.witness6 (enc := enc) (C := Try.checked) false ⟨#[], #[.slice none 0 0, .int .i64 0, .int .u8 0], []⟩ 8 (by kernel_rfl) (by kernel_rfl) (by kernel_rfl) (by kernel_rfl)) ?_
  intro W base args ds gs before hval0 hW hcnd _
  have hval : ∀ (j : Nat) t v, Try.f5.params[j]? = some t → args[j]? = some v → Value.okWide Try.prog W .any base t v := hval0
  have hW' := hW
  obtain ⟨p, q, hA0, hV, rfl, hfz, hnd⟩ := hW
  have hA : DataW.TrodAll enc Try.prog W 0 (fun _ => true) true Try.f5.params.toList args.toList ds p := hA0
  rw [Try.params5] at hA hval
  obtain ⟨v0, vs0, d0, ds0, p0, q0, hargs, rfl, rfl, h0, r0⟩ := trodAll_cons hA
  obtain ⟨v1, vs1, d1, ds1, p1, q1, rfl, rfl, rfl, h1, r1⟩ := trodAll_cons r0
  obtain ⟨v2, vs2, d2, ds2, p2, q2, rfl, rfl, rfl, h2, r2⟩ := trodAll_cons r1
  obtain ⟨rfl, rfl, rfl⟩ := trodAll_nil r2
  obtain rfl : args = #[v0, v1, v2] := by cases args; simp_all
  obtain ⟨rfl, rfl⟩ := trodVars_none hV
  obtain ⟨a0, len0, cap0, rfl⟩ := okWide_slice Try.underlying22 (hval 0 22 v0 rfl rfl)
  have k0 := h0
  have lt0 : ∀ x ∈ p0, x.block < W.heap.size := by obtain ⟨m, hm⟩ := k0; exact DataW.trod_lt m _ _ _ hm
  obtain ⟨z0, w0⟩ : ∃ zs, IsRow .u8 W a0 len0 cap0 zs := by
    obtain ⟨fuel, hf⟩ := h0
    rcases open_ints Try.underlying22 Try.underlying5 (by kernel_rfl) hf with ⟨hcs, _⟩ | ⟨x, l, c, zs, hcs, _, hl, hm, hz, _, hcell, hwz⟩
    · simp [Value.cells] at hcs
      obtain ⟨rfl, rfl, rfl⟩ := hcs
      exact ⟨[], .inl ⟨rfl, rfl, rfl, rfl⟩⟩
    · simp [Value.cells] at hcs
      obtain ⟨rfl, rfl, rfl⟩ := hcs
      exact ⟨zs, .inr ⟨_, rfl, hl, hm, by simpa using hz, hcell, hwz⟩⟩
  obtain ⟨a1, rfl, rfl, rfl, w1⟩ := open_int Try.underlying3 (hval 1 3 v1 rfl rfl) h1
  obtain ⟨a2, rfl, rfl, rfl, w2⟩ := open_int Try.underlying5 (hval 2 5 v2 rfl rfl) h2
  clear hA0 hval0
  refine (walk a0 len0 cap0 z0 a1 a2 W w0 w1 w2).mono fun e W' ⟨he, bel⟩ => ?_
  subst he
  exact ⟨_, rfl, _, _, _, [], _, [], hW', trodAll_mk1 (shut_bool Try.underlying4 _), (trodAll_cons_mk (Below.trod laidOut (by kernel_rfl) (of_decide_eq_true (by kernel_rfl)) k0 bel lt0) (trodAll_cons_mk (shut_int Try.underlying3 w1) (trodAll_cons_mk (shut_int Try.underlying5 w2) trodAll_mk0))), rfl, bel.frame _, fun h => by cases h⟩

theorem over : Rows.crcByteRow.holds Try.pinned (OpenSpec.ofChange Rows.crcByteSpec) :=
  OpenClaim.holds_of_wide 5 Try.f5 rfl rfl rfl rfl rfl rfl rfl ⟨rfl, rfl, rfl, rfl, rfl⟩ rfl rfl rfl rfl rfl (by kernel_rfl) Try.func5 (by kernel_rfl)
    (of_decide_eq_true (by kernel_rfl)) (by unfold Func.isWrapper; first | (rw [if_pos (by decide +kernel)]; kernel_rfl) | (rw [if_neg (by decide +kernel)]; exact ⟨rfl, rfl⟩))
    (fun os started H enc _ => lifted os started H enc)

end Go.Proofs.Ytleejamgpdejoaa.crcByte
namespace Go.Proofs.Ytleejamgpdejoaa
/-- The statement. -/
theorem crcByte_holds : Rows.CrcByteSaid := crcByte.over
#print axioms crcByte_holds
end Go.Proofs.Ytleejamgpdejoaa
