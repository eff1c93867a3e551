/- Write of any request, Reply of anything. -/
import Derived.Test.YtlfmdplaoalahaaRows
import Derived.Test.YtlfmdplaoalahaaROpen
import Derived.WalkKit
import Derived.ProofKit
import Derived.OpenShut
import Derived.ShutString
import Derived.ChangeOld
import Derived.Below
namespace Go.Proofs.Ytlfmdplaoalahaa.reqWrites
open Go.ChangeShapes Go.WideShapes Go.ChangeAt Go.RowKit
open Go.ChangeMaps (open_string shut_string)
set_option linter.unusedVariables false

theorem own : ownKnob Try.prog.godebug = none := by kernel_rfl
theorem laidOut : laidOutB Try.prog = true := by kernel_rfl

/-- WHAT THE WALK IS TOLD OF A SLICE OF INTEGERS THAT CAME IN: it is nil; or it leads to a row of 'cap' cells, the numbers 'zs' (the first 'len' are its elements, the rest its spare room), each fitting its kind. -/
def IsRow (k : IntKind) (w : World) (a : Option Addr) (len cap : Nat) (zs : List Int) : Prop :=
  (a = none ∧ len = 0 ∧ cap = 0 ∧ zs = []) ∨
  ∃ x, a = some x ∧ len ≤ cap ∧ cap ≤ maxLen ∧ zs.length = cap ∧ (∀ i, i < zs.length → w.cell? (x.add i) = some (.int k (zs.getD i 0))) ∧ ∀ n ∈ zs, (Lit.int k n).wf = true

set_option maxHeartbeats 4000000 in
theorem walk (r0 : Rq) (A0 : Option Addr) (k0 C0 : Nat) (D0 : List Int) (a1 : Int) (a2 : Int) (a3 : Option Addr) (len3 cap3 : Nat) (z3 : List Int) (w : World) (w0 : r0.Fits ∧ DIn w A0 k0 C0 D0) (w1 : (Lit.int .u32 a1).wf = true) (w2 : (Lit.int .u64 a2).wf = true) (w3 : IsRow .u8 w a3 len3 cap3 z3) :
    Calls Try.prog 4 #[.agg (reqL r0 A0 k0 C0).toArray, .int .u32 a1, .int .u64 a2, .slice a3 len3 cap3] w fun e w' => e = .returned (.bool true) ∧ Below w.heap.size w w' := by
  obtain ⟨hr, hD⟩ := w0
  obtain ⟨hx, hxc, hxn⟩ := row_nin w3
  obtain ⟨X, eX⟩ : ∃ X, X = z3.take len3 := ⟨_, rfl⟩
  rw [← eX] at hx
  have b1 := bounds_u32 w1
  obtain ⟨q, hq⟩ : ∃ q, q = w.heap.size := ⟨_, rfl⟩
  have b0 : Blk (w.alloc (.cells (reqL r0 A0 k0 C0).toArray 28)) q (reqL r0 A0 k0 C0) 28 := Blk.new' hq.symm rfl
  have bw : Below q w (w.alloc (.cells (reqL r0 A0 k0 C0).toArray 28)) := (Below.refl _ _).alloc (by omega) _
  have hqw : q ≤ w.heap.size := by omega
  have H : Hid (r0.Fits ∧ DIn w A0 k0 C0 D0 ∧ BIn w a3 len3 X ∧ (a3 = none → len3 = 0 ∧ cap3 = 0) ∧ q ≤ w.heap.size ∧ q = w.heap.size ∧ Fits32 a1 ∧ FitsU a2) := ⟨hr, hD, hx.b, hxn, hqw, hq, ⟨by omega, by omega⟩, fitsU w2⟩
  rw [← hq]
  clear hr hD hx hxc hxn eX w1 w2 w3 b1 hqw
  go_enter Try.func4, Try.ntmps4
  go_upto_region 1 with fail
  rw [← hq]
  generalize hW : World.alloc w _ = W at b0 bw ⊢
  have HW : Hid (Blk W q (reqL r0 A0 k0 C0) 28 ∧ Below q w W ∧ DIn W A0 k0 C0 D0 ∧ BIn W a3 len3 X) := ⟨b0, bw, H.out.2.1.below (by rw [← H.out.2.2.2.2.2.1]; exact bw), H.out.2.2.1.below (by rw [← H.out.2.2.2.2.2.1]; exact bw)⟩
  have c5 : W.cell? ⟨q, 5, none⟩ = some (.slice A0 k0 C0) := b0.cell 5
  clear hW hq b0 bw
  by_cases h1 : (2000 : Int) < k0
  · have d1 : decide ((2000 : Int) < k0) = true := decide_eq_true h1
    go_wp2
    go_ret
    exact ⟨rfl, HW.out.2.1⟩
  by_cases h2 : (2000 : Int) < len3
  · have d1 : decide ((2000 : Int) < k0) = false := decide_eq_false h1
    have d2 : decide ((2000 : Int) < len3) = true := decide_eq_true h2
    go_wp2
    go_ret
    exact ⟨rfl, HW.out.2.1⟩
  have d1 : decide ((2000 : Int) < k0) = false := decide_eq_false h1
  have d2 : decide ((2000 : Int) < len3) = false := decide_eq_false h2
  have n1 : k0 ≤ 2000 := by omega
  have n2 : len3 ≤ 2000 := by omega
  have HN : Hid (k0 ≤ 2000 ∧ len3 ≤ 2000) := ⟨n1, n2⟩
  have c0 : W.cell? ⟨q, 0, none⟩ = some (.int .u16 r0.fl) := HW.out.1.cell 0
  have c1 : W.cell? ⟨q, 1, none⟩ = some (.int .u16 r0.kd) := HW.out.1.cell 1
  have c2 : W.cell? ⟨q, 2, none⟩ = some (.int .u64 r0.ck) := HW.out.1.cell 2
  have c3 : W.cell? ⟨q, 3, none⟩ = some (.int .u64 r0.ofs) := HW.out.1.cell 3
  have c4 : W.cell? ⟨q, 4, none⟩ = some (.int .u32 r0.ln) := HW.out.1.cell 4
  obtain ⟨L5, hL5⟩ : ∃ L, L = wrL r0 D0 := ⟨_, rfl⟩
  obtain ⟨L7, hL7⟩ : ∃ L, L = rpL a1 a2 X := ⟨_, rfl⟩
  have cI := fun Y (h : DIn Y A0 k0 C0 D0) => write_of r0 A0 k0 C0 D0 Y H.out.1 h (by have := HN.out; omega)
  have cJ := fun Y (h : DIn Y A0 k0 C0 D0) => dWrite_of r0 A0 k0 C0 D0 Y H.out.1 h (by have := HN.out; omega)
  have cB := fun Y (h : BIn Y a3 len3 X) => reply_of a1 a2 a3 len3 cap3 X Y H.out.2.2.2.2.2.2.1 H.out.2.2.2.2.2.2.2 h H.out.2.2.2.1 (by have := HN.out; omega)
  have cC := fun Y (h : BIn Y a3 len3 X) => dReply_of a1 a2 a3 len3 cap3 X Y H.out.2.2.2.2.2.2.1 H.out.2.2.2.2.2.2.2 h H.out.2.2.2.1 (by have := HN.out; omega)
  rw [← hL5] at cI cJ
  rw [← hL7] at cB cC
  have HL : Hid ((∀ z ∈ L5, Fits8 z) ∧ L5.length ≤ 100000 ∧ (∀ z ∈ L7, Fits8 z) ∧ L7.length ≤ 100000) := ⟨by rw [hL5]; exact wrL_fits H.out.2.1.1.2.2.1, by rw [hL5, wrL_length]; have : (wrD r0 D0).length ≤ D0.length := (by unfold wrD; split <;> simp); rw [H.out.2.1.1.1] at this; omega, by rw [hL7]; intro z hz; rcases List.mem_append.1 hz with hz | hz; exact packL_fits _ _ z hz; exact H.out.2.2.1.2.2.1 z hz, by rw [hL7]; unfold rpL; rw [List.length_append, pack16, H.out.2.2.1.1]; omega⟩
  clear hL5 hL7 n1 n2 h1 h2
  go_wp2
  go_region_held3 (fun w' => w'.cell? ⟨q, 0, none⟩ = some (.int .u16 r0.fl) ∧ w'.cell? ⟨q, 1, none⟩ = some (.int .u16 r0.kd) ∧ w'.cell? ⟨q, 2, none⟩ = some (.int .u64 r0.ck) ∧ w'.cell? ⟨q, 3, none⟩ = some (.int .u64 r0.ofs) ∧ w'.cell? ⟨q, 4, none⟩ = some (.int .u32 r0.ln) ∧ w'.cell? ⟨q, 5, none⟩ = some (.slice A0 k0 C0)) (first | exact ⟨c0, c1, c2, c3, c4, c5⟩ | exact x9 | exact x5 | exact x6 | exact x7 | exact x8)
    (first
    | (go_simp; go_at_call 12; refine (rknown_any _).mono ?_; rintro e V9 ⟨rfl, b9⟩; have H9 : Hid (Blk V9 q (reqL r0 A0 k0 C0) 28 ∧ Below q w V9 ∧ DIn V9 A0 k0 C0 D0 ∧ BIn V9 a3 len3 X) := ⟨HW.out.1.drew.below b9 HW.out.1.lt, below_via HW.out.2.1.drew H.out.2.2.2.2.1 b9, HW.out.2.2.1.below ((Below.refl _ _).drew.trans b9), HW.out.2.2.2.below ((Below.refl _ _).drew.trans b9)⟩; clear b9; have x9 := six_cells H9.out.1)
    | (go_simp; go_at_call 15; refine (cI _ H9.out.2.2.1).mono ?_; rintro e V5 ⟨A5, k5, C5, rfl, o5, b5⟩; have H5 : Hid (Blk V5 q (reqL r0 A0 k0 C0) 28 ∧ Below q w V5 ∧ DIn V5 A0 k0 C0 D0 ∧ BIn V5 a3 len3 X ∧ BIn V5 A5 k5 L5) := ⟨H9.out.1.below b5 H9.out.1.lt, below_via H9.out.2.1 H.out.2.2.2.2.1 b5, H9.out.2.2.1.below b5, H9.out.2.2.2.below b5, own_bin o5 (by have h := o5.1; rw [u8s_length] at h; have := HL.out.2.1; unfold maxLen; omega) HL.out.1⟩; clear o5 b5; have x5 := six_cells H5.out.1)
    | (go_simp; go_at_call 16; refine (cJ _ H5.out.2.2.1).mono ?_; rintro e V6 ⟨A6, k6, C6, rfl, o6, b6⟩; have H6 : Hid (Blk V6 q (reqL r0 A0 k0 C0) 28 ∧ Below q w V6 ∧ BIn V6 a3 len3 X ∧ BIn V6 A5 k5 L5 ∧ BIn V6 A6 k6 L5) := ⟨H5.out.1.below b6 H5.out.1.lt, below_via H5.out.2.1 H.out.2.2.2.2.1 b6, H5.out.2.2.2.1.below b6, H5.out.2.2.2.2.below b6, own_bin o6 (by have h := o6.1; rw [u8s_length] at h; have := HL.out.2.1; unfold maxLen; omega) HL.out.1⟩; clear o6 b6; have x6 := six_cells H6.out.1)
    | (go_simp; go_at_call 17; refine (cB _ H6.out.2.2.1).mono ?_; rintro e V7 ⟨A7, k7, C7, rfl, o7, b7⟩; have H7 : Hid (Blk V7 q (reqL r0 A0 k0 C0) 28 ∧ Below q w V7 ∧ BIn V7 a3 len3 X ∧ BIn V7 A7 k7 L7) := ⟨H6.out.1.below b7 H6.out.1.lt, below_via H6.out.2.1 H.out.2.2.2.2.1 b7, H6.out.2.2.1.below b7, own_bin o7 (by have h := o7.1; rw [u8s_length] at h; have := HL.out.2.2.2; unfold maxLen; omega) HL.out.2.2.1⟩; clear o7 b7; have x7 := six_cells H7.out.1)
    | (go_simp; go_at_call 18; refine (cC _ H7.out.2.2.1).mono ?_; rintro e V8 ⟨A8, k8, C8, rfl, o8, b8⟩; have H8 : Hid (Blk V8 q (reqL r0 A0 k0 C0) 28 ∧ Below q w V8 ∧ BIn V8 A7 k7 L7 ∧ BIn V8 A8 k8 L7) := ⟨H7.out.1.below b8 H7.out.1.lt, below_via H7.out.2.1 H.out.2.2.2.2.1 b8, H7.out.2.2.2.below b8, own_bin o8 (by have h := o8.1; rw [u8s_length] at h; have := HL.out.2.2.2; unfold maxLen; omega) HL.out.2.2.1⟩; clear o8 b8; have x8 := six_cells H8.out.1)
    | (go_simp; go_at_call 14; refine (sameBytes_of A7 k7 C7 L7 A8 k8 C8 L7 V8 H8.out.2.2.1 H8.out.2.2.2 rfl).mono ?_; rintro e V8 ⟨rfl, rfl⟩)
    | (go_simp; go_at_call 14; refine (sameBytes_of A5 k5 C5 L5 A6 k6 C6 L5 V6 H6.out.2.2.2.1 H6.out.2.2.2.2 rfl).mono ?_; rintro e V6 ⟨rfl, rfl⟩))
  all_goals (
    go_wp2
    go_ret
    exact ⟨rfl, H8.out.2.1⟩)

set_option maxRecDepth 100000 in
theorem lifted (os : Os) (started : os.Started) (H : Type) (enc : TypeId × Value → H) :
    ReturnsInHanded {} Try.checked os 4 .any (Rows.reqWritesSpec.pre6 enc Try.prog Try.f4 Rows.reqWritesRow.domain false) (Rows.reqWritesSpec.post enc Try.prog Try.f4 false true false false) := by
  refine returnsInHanded_of_change (C := Try.checked) own started (by kernel_rfl) Try.func4
    (ChangeSpec.witness6 (enc := enc) (C := Try.checked) false ⟨#[], #[.agg #[.int .u16 0, .int .u16 0, .int .u64 0, .int .u64 0, .int .u32 0, .slice none 0 0], .int .u32 0, .int .u64 0, .slice none 0 0], []⟩ 8 (by kernel_rfl) (by kernel_rfl) (by kernel_rfl) (by kernel_rfl)) ?_
  intro W base args ds gs before hval0 hW hcnd _
  have hval : ∀ (j : Nat) t v, Try.f4.params[j]? = some t → args[j]? = some v → Value.okWide Try.prog W .any base t v := hval0
  have hW' := hW
  obtain ⟨p, q, hA0, hV, rfl, hfz, hnd⟩ := hW
  have hA : DataW.TrodAll enc Try.prog W 0 (fun _ => true) true Try.f4.params.toList args.toList ds p := hA0
  rw [Try.params4] at hA hval
  obtain ⟨v0, vs0, d0, ds0, p0, q0, hargs, rfl, rfl, h0, r0⟩ := trodAll_cons hA
  obtain ⟨v1, vs1, d1, ds1, p1, q1, rfl, rfl, rfl, h1, r1⟩ := trodAll_cons r0
  obtain ⟨v2, vs2, d2, ds2, p2, q2, rfl, rfl, rfl, h2, r2⟩ := trodAll_cons r1
  obtain ⟨v3, vs3, d3, ds3, p3, q3, rfl, rfl, rfl, h3, r3⟩ := trodAll_cons r2
  obtain ⟨rfl, rfl, rfl⟩ := trodAll_nil r3
  obtain rfl : args = #[v0, v1, v2, v3] := by cases args; simp_all
  obtain ⟨rfl, rfl⟩ := trodVars_none hV
  have kk0 := h0
  have lt0 : ∀ x ∈ p0, x.block < W.heap.size := by obtain ⟨m, hm⟩ := kk0; exact DataW.trod_lt m _ _ _ hm
  obtain ⟨rq0, AA0, kq0, CC0, DD0, rfl, w0⟩ := open_request (hval 0 28 v0 rfl rfl) h0
  obtain ⟨a1, rfl, rfl, rfl, w1⟩ := open_int Try.underlying26 (hval 1 26 v1 rfl rfl) h1
  obtain ⟨a2, rfl, rfl, rfl, w2⟩ := open_int Try.underlying25 (hval 2 25 v2 rfl rfl) h2
  obtain ⟨a3, len3, cap3, rfl⟩ := okWide_slice Try.underlying22 (hval 3 22 v3 rfl rfl)
  have k3 := h3
  have lt3 : ∀ x ∈ p3, x.block < W.heap.size := by obtain ⟨m, hm⟩ := k3; exact DataW.trod_lt m _ _ _ hm
  obtain ⟨z3, w3⟩ : ∃ zs, IsRow .u8 W a3 len3 cap3 zs := by
    obtain ⟨fuel, hf⟩ := h3
    rcases open_ints Try.underlying22 Try.underlying5 (by kernel_rfl) hf with ⟨hcs, _⟩ | ⟨x, l, c, zs, hcs, _, hl, hm, hz, _, hcell, hwz⟩
    · simp [Value.cells] at hcs
      obtain ⟨rfl, rfl, rfl⟩ := hcs
      exact ⟨[], .inl ⟨rfl, rfl, rfl, rfl⟩⟩
    · simp [Value.cells] at hcs
      obtain ⟨rfl, rfl, rfl⟩ := hcs
      exact ⟨zs, .inr ⟨_, rfl, hl, hm, by simpa using hz, hcell, hwz⟩⟩
  clear hA0 hval0
  refine (walk rq0 AA0 kq0 CC0 DD0 a1 a2 a3 len3 cap3 z3 W w0 w1 w2 w3).mono fun e W' ⟨he, bel⟩ => ?_
  subst he
  exact ⟨_, rfl, _, _, _, [], _, [], hW', trodAll_mk1 (shut_bool Try.underlying4 _), (trodAll_cons_mk (Below.trod laidOut (by kernel_rfl) (of_decide_eq_true (by kernel_rfl)) kk0 bel lt0) (trodAll_cons_mk (shut_int Try.underlying26 w1) (trodAll_cons_mk (shut_int Try.underlying25 w2) (trodAll_cons_mk (Below.trod laidOut (by kernel_rfl) (of_decide_eq_true (by kernel_rfl)) k3 bel lt3) trodAll_mk0)))), rfl, bel.frame _, fun h => by cases h⟩

theorem over : Rows.reqWritesRow.holds Try.pinned (OpenSpec.ofChange Rows.reqWritesSpec) :=
  OpenClaim.holds_of_wide 4 Try.f4 rfl rfl rfl rfl rfl rfl rfl ⟨rfl, rfl, rfl, rfl, rfl⟩ rfl rfl rfl rfl rfl (by kernel_rfl) Try.func4 (by kernel_rfl)
    (of_decide_eq_true (by kernel_rfl)) (by unfold Func.isWrapper; first | (rw [if_pos (by decide +kernel)]; kernel_rfl) | (rw [if_neg (by decide +kernel)]; exact ⟨rfl, rfl⟩))
    (fun os started H enc _ => lifted os started H enc)

end Go.Proofs.Ytlfmdplaoalahaa.reqWrites
namespace Go.Proofs.Ytlfmdplaoalahaa
/-- The statement. -/
theorem reqWrites_holds : Rows.ReqWritesSaid := reqWrites.over
#print axioms reqWrites_holds
end Go.Proofs.Ytlfmdplaoalahaa
