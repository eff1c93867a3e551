/- Next of any bytes is what the chapter says. -/
import Derived.Test.YtlfmdplaoalahaaRows
import Derived.Test.YtlfmdplaoalahaaRKnown
import Derived.Test.YtlfmdplaoalahaaRRefNext
import Derived.WalkKit
import Derived.ProofKit
import Derived.OpenShut
import Derived.ShutString
import Derived.ChangeOld
import Derived.Below
namespace Go.Proofs.Ytlfmdplaoalahaa.reqReads
open Go.ChangeShapes Go.WideShapes Go.ChangeAt Go.RowKit
open Go.ChangeMaps (open_string shut_string)
set_option linter.unusedVariables false

theorem own : ownKnob Try.prog.godebug = none := by kernel_rfl
theorem laidOut : laidOutB Try.prog = true := by kernel_rfl

/-- WHAT THE WALK IS TOLD OF A SLICE OF INTEGERS THAT CAME IN: it is nil; or it leads to a row of 'cap' cells, the numbers 'zs' (the first 'len' are its elements, the rest its spare room), each fitting its kind. -/
def IsRow (k : IntKind) (w : World) (a : Option Addr) (len cap : Nat) (zs : List Int) : Prop :=
  (a = none ∧ len = 0 ∧ cap = 0 ∧ zs = []) ∨
  ∃ x, a = some x ∧ len ≤ cap ∧ cap ≤ maxLen ∧ zs.length = cap ∧ (∀ i, i < zs.length → w.cell? (x.add i) = some (.int k (zs.getD i 0))) ∧ ∀ n ∈ zs, (Lit.int k n).wf = true

set_option maxHeartbeats 2000000 in
theorem walk (a0 : Option Addr) (len0 cap0 : Nat) (z0 : List Int) (w : World) (w0 : IsRow .u8 w a0 len0 cap0 z0) :
    Calls Try.prog 3 #[.slice a0 len0 cap0] w fun e w' => e = .returned (.bool true) ∧ Below w.heap.size w w' := by
  obtain ⟨hx, hxc, hxn⟩ := row_nin w0
  obtain ⟨X, eX⟩ : ∃ X, X = z0.take len0 := ⟨_, rfl⟩
  rw [← eX] at hx
  have H : Hid (BIn w a0 len0 X ∧ len0 ≤ cap0 ∧ (a0 = none → len0 = 0 ∧ cap0 = 0)) := ⟨hx.b, hxc, hxn⟩
  clear hx eX w0 hxc hxn
  by_cases h1 : (2000 : Int) < len0
  · go_enter Try.func3, Try.ntmps3
    go_wp2
    go_ret
    exact ⟨rfl, Below.refl _ _⟩
  have n1 : len0 ≤ 2000 := by omega
  have HN : Hid (len0 ≤ 2000) := n1
  obtain ⟨NR, hNR⟩ : ∃ N, N = nxR X := ⟨_, rfl⟩
  obtain ⟨ND, hND⟩ : ∃ N, N = nxD X := ⟨_, rfl⟩
  obtain ⟨NC, hNC⟩ : ∃ N, N = nxC X := ⟨_, rfl⟩
  obtain ⟨NE, hNE⟩ : ∃ N, N = nxE X := ⟨_, rfl⟩
  have bN : 0 ≤ NE ∧ NE ≤ 82 := by rw [hNE]; rcases nxE_is X with h | h | h | h <;> rw [h] <;> omega
  obtain ⟨bN0, bN1⟩ := bN
  have HL : Hid (NR = nxR X ∧ ND = nxD X ∧ NC = nxC X ∧ NE = nxE X) := ⟨hNR, hND, hNC, hNE⟩
  clear hNR hND hNC hNE
  go_enter Try.func3, Try.ntmps3
  go_wp2_with fail
  refine (lentBytes_of a0 len0 cap0 X w H.out.1 H.out.2.2 (by have := HN.out; omega)).mono ?_
  rintro e w1 ⟨A1, C1, rfl, ow1, b1⟩
  have B1 : Hid (BIn w1 A1 len0 X ∧ (A1 = none → len0 = 0 ∧ C1 = 0) ∧ len0 ≤ C1 ∧ Below w.heap.size w w1) :=
    ⟨own_bin ow1 (by have := HN.out; unfold maxLen; omega) H.out.1.2.2.1, own_nil ow1, own_capN ow1, b1⟩
  clear ow1 b1
  go_wp2_with fail
  refine (next_of A1 len0 C1 X w1 B1.out.1 B1.out.2.1 B1.out.2.2.1 (by have := HN.out; omega)).mono ?_
  rw [← HL.out.1, ← HL.out.2.1, ← HL.out.2.2.1, ← HL.out.2.2.2]
  rintro e w4 ⟨A4, k4, C4, rfl, d4, -, b4⟩
  have B4 : Hid (BIn w4 A1 len0 X ∧ Below w.heap.size w w4 ∧ BIn w4 A4 k4 ND) := ⟨B1.out.1.below b4, B1.out.2.2.2.trans (b4.mono B1.out.2.2.2.size), d4⟩
  clear b4 d4
  go_upto_region 5 with (refine wpList_store_req rfl (.tmp 4) (.tmp 18) rfl w4.heap.size NR A4 k4 C4 rfl rfl ?hT ?_; (case hT => exact req_there _); intro U hU; have B5 : Hid (BIn U A1 len0 X ∧ Below w.heap.size w U ∧ BIn U A4 k4 ND ∧ Blk U w4.heap.size (reqL NR A4 k4 C4) 28) := (have u := req_kept hU; ⟨B4.out.1.below u.2, B4.out.2.1.trans (u.2.mono B4.out.2.1.size), B4.out.2.2.below u.2, u.1⟩); clear hU)
  go_wp2_with fail
  refine (dNext_of a0 len0 cap0 X U (H.out.1.below B5.out.2.1) H.out.2.2 H.out.2.1 (by have := HN.out; omega)).mono ?_
  rw [← HL.out.1, ← HL.out.2.1, ← HL.out.2.2.1, ← HL.out.2.2.2]
  rintro e w6 ⟨A6, k6, C6, rfl, d6, -, b6⟩
  have B6 : Hid (BIn w6 A1 len0 X ∧ Below w.heap.size w w6 ∧ BIn w6 A4 k4 ND ∧ Blk w6 w4.heap.size (reqL NR A4 k4 C4) 28 ∧ BIn w6 A6 k6 ND) := ⟨B5.out.1.below b6, B5.out.2.1.trans (b6.mono B5.out.2.1.size), B5.out.2.2.1.below b6, B5.out.2.2.2.below b6 B5.out.2.2.2.lt, d6⟩
  clear b6 d6
  go_upto_region 6 with (refine wpList_store_req rfl (.tmp 7) (.tmp 24) rfl w6.heap.size NR A6 k6 C6 rfl rfl ?hT ?_; (case hT => exact req_there _); intro V hV; have B7 : Hid (BIn V A1 len0 X ∧ Below w.heap.size w V ∧ BIn V A4 k4 ND ∧ Blk V w4.heap.size (reqL NR A4 k4 C4) 28 ∧ BIn V A6 k6 ND ∧ Blk V w6.heap.size (reqL NR A6 k6 C6) 28) := (have u := req_kept hV; ⟨B6.out.1.below u.2, B6.out.2.1.trans (u.2.mono B6.out.2.1.size), B6.out.2.2.1.below u.2, B6.out.2.2.2.1.below u.2 B6.out.2.2.2.1.lt, B6.out.2.2.2.2.below u.2, u.1⟩); clear hV)
  go_wp2_with fail
  refine (rknown_any V).mono ?_
  rintro e w8 ⟨rfl, b8⟩
  have B8 : Hid (BIn w8 A1 len0 X ∧ Below w.heap.size w w8 ∧ BIn w8 A4 k4 ND ∧ Blk w8 w4.heap.size (reqL NR A4 k4 C4) 28 ∧ BIn w8 A6 k6 ND ∧ Blk w8 w6.heap.size (reqL NR A6 k6 C6) 28) := ⟨B7.out.1.below b8, B7.out.2.1.trans (b8.mono B7.out.2.1.size), B7.out.2.2.1.below b8, B7.out.2.2.2.1.below b8 B7.out.2.2.2.1.lt, B7.out.2.2.2.2.1.below b8, B7.out.2.2.2.2.2.below b8 B7.out.2.2.2.2.2.lt⟩
  clear b8
  have e0 : w8.cell? ⟨w4.heap.size, 0, none⟩ = some (.int .u16 NR.fl) := B8.out.2.2.2.1.cell 0
  have e1 : w8.cell? ⟨w4.heap.size, 1, none⟩ = some (.int .u16 NR.kd) := B8.out.2.2.2.1.cell 1
  have e2 : w8.cell? ⟨w4.heap.size, 2, none⟩ = some (.int .u64 NR.ck) := B8.out.2.2.2.1.cell 2
  have e3 : w8.cell? ⟨w4.heap.size, 3, none⟩ = some (.int .u64 NR.ofs) := B8.out.2.2.2.1.cell 3
  have e4 : w8.cell? ⟨w4.heap.size, 4, none⟩ = some (.int .u32 NR.ln) := B8.out.2.2.2.1.cell 4
  have e5 : w8.cell? ⟨w4.heap.size, 5, none⟩ = some (.slice A4 k4 C4) := B8.out.2.2.2.1.cell 5
  have f0 : w8.cell? ⟨w6.heap.size, 0, none⟩ = some (.int .u16 NR.fl) := B8.out.2.2.2.2.2.cell 0
  have f1 : w8.cell? ⟨w6.heap.size, 1, none⟩ = some (.int .u16 NR.kd) := B8.out.2.2.2.2.2.cell 1
  have f2 : w8.cell? ⟨w6.heap.size, 2, none⟩ = some (.int .u64 NR.ck) := B8.out.2.2.2.2.2.cell 2
  have f3 : w8.cell? ⟨w6.heap.size, 3, none⟩ = some (.int .u64 NR.ofs) := B8.out.2.2.2.2.2.cell 3
  have f4 : w8.cell? ⟨w6.heap.size, 4, none⟩ = some (.int .u32 NR.ln) := B8.out.2.2.2.2.2.cell 4
  have f5 : w8.cell? ⟨w6.heap.size, 5, none⟩ = some (.slice A6 k6 C6) := B8.out.2.2.2.2.2.cell 5
  go_wp2_with fail
  refine (sameRequest_of NR A4 k4 C4 A6 k6 C6 ND w8 B8.out.2.2.1 B8.out.2.2.2.2.1).mono ?_
  rintro e w9 ⟨rfl, b9⟩
  have B9 : Hid (BIn w9 A1 len0 X ∧ Below w.heap.size w w9) := ⟨B8.out.1.below b9, B8.out.2.1.trans (b9.mono B8.out.2.1.size)⟩
  clear b9 e0 e1 e2 e3 e4 e5 f0 f1 f2 f3 f4 f5
  go_wp2_with fail
  refine (sameBytes_of A1 len0 C1 X a0 len0 cap0 X w9 B9.out.1 (H.out.1.below B9.out.2) rfl).mono ?_
  rintro e w9 ⟨rfl, rfl⟩
  go_wp2
  go_ret
  exact ⟨rfl, B9.out.2⟩

set_option maxRecDepth 100000 in
theorem lifted (os : Os) (started : os.Started) (H : Type) (enc : TypeId × Value → H) :
    ReturnsInHanded {} Try.checked os 3 .any (Rows.reqReadsSpec.pre6 enc Try.prog Try.f3 Rows.reqReadsRow.domain false) (Rows.reqReadsSpec.post enc Try.prog Try.f3 false true false false) := by
  refine returnsInHanded_of_change (C := Try.checked) own started (by kernel_rfl) Try.func3
    (ChangeSpec.witness6 (enc := enc) (C := Try.checked) false ⟨#[], #[.slice none 0 0], []⟩ 8 (by kernel_rfl) (by kernel_rfl) (by kernel_rfl) (by kernel_rfl)) ?_
  intro W base args ds gs before hval0 hW hcnd _
  have hval : ∀ (j : Nat) t v, Try.f3.params[j]? = some t → args[j]? = some v → Value.okWide Try.prog W .any base t v := hval0
  have hW' := hW
  obtain ⟨p, q, hA0, hV, rfl, hfz, hnd⟩ := hW
  have hA : DataW.TrodAll enc Try.prog W 0 (fun _ => true) true Try.f3.params.toList args.toList ds p := hA0
  rw [Try.params3] at hA hval
  obtain ⟨v0, vs0, d0, ds0, p0, q0, hargs, rfl, rfl, h0, r0⟩ := trodAll_cons hA
  obtain ⟨rfl, rfl, rfl⟩ := trodAll_nil r0
  obtain rfl : args = #[v0] := by cases args; simp_all
  obtain ⟨rfl, rfl⟩ := trodVars_none hV
  obtain ⟨a0, len0, cap0, rfl⟩ := okWide_slice Try.underlying22 (hval 0 22 v0 rfl rfl)
  have k0 := h0
  have lt0 : ∀ x ∈ p0, x.block < W.heap.size := by obtain ⟨m, hm⟩ := k0; exact DataW.trod_lt m _ _ _ hm
  obtain ⟨z0, w0⟩ : ∃ zs, IsRow .u8 W a0 len0 cap0 zs := by
    obtain ⟨fuel, hf⟩ := h0
    rcases open_ints Try.underlying22 Try.underlying5 (by kernel_rfl) hf with ⟨hcs, _⟩ | ⟨x, l, c, zs, hcs, _, hl, hm, hz, _, hcell, hwz⟩
    · simp [Value.cells] at hcs
      obtain ⟨rfl, rfl, rfl⟩ := hcs
      exact ⟨[], .inl ⟨rfl, rfl, rfl, rfl⟩⟩
    · simp [Value.cells] at hcs
      obtain ⟨rfl, rfl, rfl⟩ := hcs
      exact ⟨zs, .inr ⟨_, rfl, hl, hm, by simpa using hz, hcell, hwz⟩⟩
  clear hA0 hval0
  refine (walk a0 len0 cap0 z0 W w0).mono fun e W' ⟨he, bel⟩ => ?_
  subst he
  exact ⟨_, rfl, _, _, _, [], _, [], hW', trodAll_mk1 (shut_bool Try.underlying4 _), (trodAll_cons_mk (Below.trod laidOut (by kernel_rfl) (of_decide_eq_true (by kernel_rfl)) k0 bel lt0) trodAll_mk0), rfl, bel.frame _, fun h => by cases h⟩

theorem over : Rows.reqReadsRow.holds Try.pinned (OpenSpec.ofChange Rows.reqReadsSpec) :=
  OpenClaim.holds_of_wide 3 Try.f3 rfl rfl rfl rfl rfl rfl rfl ⟨rfl, rfl, rfl, rfl, rfl⟩ rfl rfl rfl rfl rfl (by kernel_rfl) Try.func3 (by kernel_rfl)
    (of_decide_eq_true (by kernel_rfl)) (by unfold Func.isWrapper; first | (rw [if_pos (by decide +kernel)]; kernel_rfl) | (rw [if_neg (by decide +kernel)]; exact ⟨rfl, rfl⟩))
    (fun os started H enc _ => lifted os started H enc)

end Go.Proofs.Ytlfmdplaoalahaa.reqReads
namespace Go.Proofs.Ytlfmdplaoalahaa
/-- The statement. -/
theorem reqReads_holds : Rows.ReqReadsSaid := reqReads.over
#print axioms reqReads_holds
end Go.Proofs.Ytlfmdplaoalahaa
