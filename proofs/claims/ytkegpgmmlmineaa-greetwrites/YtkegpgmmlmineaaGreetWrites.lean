/- Hello, Reply, Info, Blocks and Old, of anything, are what the chapter says. -/
import Derived.Test.YtkegpgmmlmineaaRows
import Derived.Test.YtkegpgmmlmineaaGOpen
import Derived.WalkKit
import Derived.ProofKit
import Derived.OpenShut
import Derived.ShutString
import Derived.ChangeOld
import Derived.Below
namespace Go.Proofs.Ytkegpgmmlmineaa.greetWrites
open Go.ChangeShapes Go.WideShapes Go.ChangeAt Go.RowKit
open Go.ChangeMaps (open_string shut_string)
set_option linter.unusedVariables false

theorem own : ownKnob Try.prog.godebug = none := by kernel_rfl
theorem laidOut : laidOutB Try.prog = true := by kernel_rfl

/-- WHAT THE WALK IS TOLD OF A SLICE OF INTEGERS THAT CAME IN: it is nil; or it leads to a row of 'cap' cells, the numbers 'zs' (the first 'len' are its elements, the rest its spare room), each fitting its kind. -/
def IsRow (k : IntKind) (w : World) (a : Option Addr) (len cap : Nat) (zs : List Int) : Prop :=
  (a = none ∧ len = 0 ∧ cap = 0 ∧ zs = []) ∨
  ∃ x, a = some x ∧ len ≤ cap ∧ cap ≤ maxLen ∧ zs.length = cap ∧ (∀ i, i < zs.length → w.cell? (x.add i) = some (.int k (zs.getD i 0))) ∧ ∀ n ∈ zs, (Lit.int k n).wf = true

set_option maxHeartbeats 4000000 in
theorem walk (T0 S0 : Int) (ro0 : Bool) (a1 : Int) (a2 : Int) (a3 : Option Addr) (len3 cap3 : Nat) (z3 : List Int) (a4 : Int) (a5 : Bool) (w : World) (w0 : FitsU S0) (w1 : (Lit.int .u32 a1).wf = true) (w2 : (Lit.int .u32 a2).wf = true) (w3 : IsRow .u8 w a3 len3 cap3 z3) (w4 : (Lit.int .i64 a4).wf = true) :
    Calls Try.prog 5 #[.agg #[.int .u32 T0, .int .u64 S0, .bool ro0], .int .u32 a1, .int .u32 a2, .slice a3 len3 cap3, .int .i64 a4, .bool a5] w fun e w' => e = .returned (.bool true) ∧ Below w.heap.size w w' := by
  obtain ⟨hx, hxc, hxn⟩ := row_nin w3
  obtain ⟨D, eD⟩ : ∃ D, D = z3.take len3 := ⟨_, rfl⟩
  rw [← eD] at hx
  have bx := bounds_u32 w1
  have by' := bounds_u32 w2
  obtain ⟨q, hq⟩ : ∃ q, q = w.heap.size := ⟨_, rfl⟩
  have b0 : Blk (w.alloc (.cells #[.int .u32 T0, .int .u64 S0, .bool ro0] 47)) q (expL T0 S0 ro0) 47 := Blk.new' hq.symm rfl
  have bw : Below q w (w.alloc (.cells #[.int .u32 T0, .int .u64 S0, .bool ro0] 47)) := (Below.refl _ _).alloc (by omega) _
  have hqw : q ≤ w.heap.size := by omega
  have H : Hid (BIn w a3 len3 D ∧ (a3 = none → len3 = 0 ∧ cap3 = 0) ∧ FitsU S0 ∧ q ≤ w.heap.size ∧ q = w.heap.size ∧ 0 ≤ a1 ∧ a1 ≤ 4294967295 ∧ 0 ≤ a2 ∧ a2 ≤ 4294967295) := ⟨hx.b, hxn, w0, hqw, hq, by omega, by omega, by omega, by omega⟩
  rw [← hq]
  clear hx hxc hxn eD w0 w1 w2 w3 w4 bx by' hqw
  by_cases h1 : (3000 : Int) < len3
  · go_enter Try.func5, Try.ntmps5
    go_wp2
    go_ret
    exact ⟨rfl, bw⟩
  have n1 : len3 ≤ 3000 := by omega
  go_enter Try.func5, Try.ntmps5
  go_upto_region 1 with fail
  rw [← hq]
  generalize hW : World.alloc w _ = W at b0 bw ⊢
  have HW : Hid (Blk W q (expL T0 S0 ro0) 47 ∧ Below q w W ∧ BIn W a3 len3 D) := ⟨b0, bw, H.out.1.below (by rw [← H.out.2.2.2.2.1]; exact bw)⟩
  clear hW hq b0 bw
  go_wp2_with fail
  refine (hello_of W).mono ?_
  rintro e V1 ⟨A1, k1, C1, rfl, d1, b1⟩
  have H1 : Hid (Blk V1 q (expL T0 S0 ro0) 47 ∧ Below q w V1 ∧ BIn V1 a3 len3 D ∧ BIn V1 A1 k1 helloL) := ⟨HW.out.1.below b1 HW.out.1.lt, below_via HW.out.2.1 H.out.2.2.2.1 b1, HW.out.2.2.below b1, d1⟩
  clear d1 b1
  go_wp2_with fail
  refine (refHello_of V1).mono ?_
  rintro e V2 ⟨A2, k2, C2, rfl, d2, b2⟩
  have H2 : Hid (Blk V2 q (expL T0 S0 ro0) 47 ∧ Below q w V2 ∧ BIn V2 a3 len3 D ∧ BIn V2 A1 k1 helloL ∧ BIn V2 A2 k2 helloL) := ⟨H1.out.1.below b2 H1.out.1.lt, below_via H1.out.2.1 H.out.2.2.2.1 b2, H1.out.2.2.1.below b2, H1.out.2.2.2.below b2, d2⟩
  clear d2 b2
  go_wp2_with fail
  refine (sameBytes_of A1 k1 C1 helloL A2 k2 C2 helloL V2 H2.out.2.2.2.1 H2.out.2.2.2.2 rfl).mono ?_
  rintro e V2 ⟨rfl, rfl⟩
  go_wp2_with fail
  refine (reply_of a1 a2 a3 len3 cap3 D V2 H2.out.2.2.1 H.out.2.1 (by omega) H.out.2.2.2.2.2.1 H.out.2.2.2.2.2.2.1 H.out.2.2.2.2.2.2.2.1 H.out.2.2.2.2.2.2.2.2).mono ?_
  rintro e V3 ⟨A3, k3, C3, rfl, d3, b3⟩
  have H3 : Hid (Blk V3 q (expL T0 S0 ro0) 47 ∧ Below q w V3 ∧ BIn V3 a3 len3 D ∧ BIn V3 A3 k3 (replyL a1 a2 D)) := ⟨H2.out.1.below b3 H2.out.1.lt, below_via H2.out.2.1 H.out.2.2.2.1 b3, H2.out.2.2.1.below b3, d3⟩
  clear d3 b3
  go_wp2_with fail
  refine (refReply_of a1 a2 a3 len3 cap3 D V3 H3.out.2.2.1 H.out.2.1 (by omega) H.out.2.2.2.2.2.1 H.out.2.2.2.2.2.2.1 H.out.2.2.2.2.2.2.2.1 H.out.2.2.2.2.2.2.2.2).mono ?_
  rintro e V4 ⟨A4, k4, C4, rfl, d4, b4⟩
  have H4 : Hid (Blk V4 q (expL T0 S0 ro0) 47 ∧ Below q w V4 ∧ BIn V4 A3 k3 (replyL a1 a2 D) ∧ BIn V4 A4 k4 (replyL a1 a2 D)) := ⟨H3.out.1.below b4 H3.out.1.lt, below_via H3.out.2.1 H.out.2.2.2.1 b4, H3.out.2.2.2.below b4, d4⟩
  clear d4 b4
  go_wp2_with fail
  refine (sameBytes_of A3 k3 C3 (replyL a1 a2 D) A4 k4 C4 (replyL a1 a2 D) V4 H4.out.2.2.1 H4.out.2.2.2 rfl).mono ?_
  rintro e V4 ⟨rfl, rfl⟩
  go_wp2
  have c0 : V4.cell? ⟨q, 0, none⟩ = some (.int .u32 T0) := H4.out.1.cell 0
  have c1 : V4.cell? ⟨q, 1, none⟩ = some (.int .u64 S0) := H4.out.1.cell 1
  have c2 : V4.cell? ⟨q, 2, none⟩ = some (.bool ro0) := H4.out.1.cell 2
  obtain ⟨L5, hL5⟩ : ∃ L, L = infoL S0 ro0 := ⟨_, rfl⟩
  obtain ⟨L7, hL7⟩ : ∃ L, L = blocksL (IntKind.u64.wrap a4) := ⟨_, rfl⟩
  have cI := fun X => info_of T0 S0 ro0 X H.out.2.2.1
  have cJ := fun X => refInfo_of T0 S0 ro0 X H.out.2.2.1
  have cB := fun X => blocks_of a4 X
  have cC := fun X => refBlocks_of a4 X
  rw [← hL5] at cI cJ
  rw [← hL7] at cB cC
  clear hL5 hL7
  go_region_held3 (fun w' => w'.cell? ⟨q, 0, none⟩ = some (.int .u32 T0) ∧ w'.cell? ⟨q, 1, none⟩ = some (.int .u64 S0) ∧ w'.cell? ⟨q, 2, none⟩ = some (.bool ro0)) (first | exact ⟨c0, c1, c2⟩ | exact ⟨e0, e1, e2⟩ | exact ⟨r0, r1, r2⟩ | exact ⟨s0, s1, s2⟩ | exact ⟨f0, f1, f2⟩)
    (first
    | (go_simp; go_at_call 22; refine (cI _).mono ?_; rintro e V5 ⟨A5, k5, C5, rfl, d5, b5⟩; have H5 : Hid (Blk V5 q (expL T0 S0 ro0) 47 ∧ Below q w V5 ∧ BIn V5 A5 k5 L5) := ⟨H4.out.1.drew.below b5 H4.out.1.lt, below_via H4.out.2.1.drew H.out.2.2.2.1 b5, d5⟩; clear d5 b5; have e0 : V5.cell? ⟨q, 0, none⟩ = some (.int .u32 T0) := H5.out.1.cell 0; have e1 : V5.cell? ⟨q, 1, none⟩ = some (.int .u64 S0) := H5.out.1.cell 1; have e2 : V5.cell? ⟨q, 2, none⟩ = some (.bool ro0) := H5.out.1.cell 2)
    | (go_simp; go_at_call 23; refine (cJ _).mono ?_; rintro e V6 ⟨A6, k6, C6, rfl, d6, b6⟩; have H6 : Hid (Blk V6 q (expL T0 S0 ro0) 47 ∧ Below q w V6 ∧ BIn V6 A5 k5 L5 ∧ BIn V6 A6 k6 L5) := ⟨H5.out.1.below b6 H5.out.1.lt, below_via H5.out.2.1 H.out.2.2.2.1 b6, H5.out.2.2.below b6, d6⟩; clear d6 b6; have r0 : V6.cell? ⟨q, 0, none⟩ = some (.int .u32 T0) := H6.out.1.cell 0; have r1 : V6.cell? ⟨q, 1, none⟩ = some (.int .u64 S0) := H6.out.1.cell 1; have r2 : V6.cell? ⟨q, 2, none⟩ = some (.bool ro0) := H6.out.1.cell 2)
    | (go_simp; go_at_call 24; refine (cB _).mono ?_; rintro e V7 ⟨A7, k7, C7, rfl, d7, b7⟩; have H7 : Hid (Blk V7 q (expL T0 S0 ro0) 47 ∧ Below q w V7 ∧ BIn V7 A7 k7 L7) := ⟨H6.out.1.below b7 H6.out.1.lt, below_via H6.out.2.1 H.out.2.2.2.1 b7, d7⟩; clear d7 b7; have s0 : V7.cell? ⟨q, 0, none⟩ = some (.int .u32 T0) := H7.out.1.cell 0; have s1 : V7.cell? ⟨q, 1, none⟩ = some (.int .u64 S0) := H7.out.1.cell 1; have s2 : V7.cell? ⟨q, 2, none⟩ = some (.bool ro0) := H7.out.1.cell 2)
    | (go_simp; go_at_call 25; refine (cC _).mono ?_; rintro e V8 ⟨A8, k8, C8, rfl, d8, b8⟩; have H8 : Hid (Blk V8 q (expL T0 S0 ro0) 47 ∧ Below q w V8 ∧ BIn V8 A7 k7 L7 ∧ BIn V8 A8 k8 L7) := ⟨H7.out.1.below b8 H7.out.1.lt, below_via H7.out.2.1 H.out.2.2.2.1 b8, H7.out.2.2.below b8, d8⟩; clear d8 b8; have f0 : V8.cell? ⟨q, 0, none⟩ = some (.int .u32 T0) := H8.out.1.cell 0; have f1 : V8.cell? ⟨q, 1, none⟩ = some (.int .u64 S0) := H8.out.1.cell 1; have f2 : V8.cell? ⟨q, 2, none⟩ = some (.bool ro0) := H8.out.1.cell 2)
    | (go_simp; go_at_call 14; refine (sameBytes_of A7 k7 C7 L7 A8 k8 C8 L7 V8 H8.out.2.2.1 H8.out.2.2.2 rfl).mono ?_; rintro e V8 ⟨rfl, rfl⟩)
    | (go_simp; go_at_call 14; refine (sameBytes_of A5 k5 C5 L5 A6 k6 C6 L5 V6 H6.out.2.2.1 H6.out.2.2.2 rfl).mono ?_; rintro e V6 ⟨rfl, rfl⟩))
  clear cI cJ cB cC
  obtain ⟨L9, hL9⟩ : ∃ L, L = oldL S0 ro0 a5 := ⟨_, rfl⟩
  have cO := fun X => old_of T0 S0 ro0 a5 X H.out.2.2.1
  have cR := fun X => refOld_of T0 S0 ro0 a5 X H.out.2.2.1
  rw [← hL9] at cO cR
  clear hL9
  go_wp2
  go_region_held3 (fun w' => w'.cell? ⟨q, 0, none⟩ = some (.int .u32 T0) ∧ w'.cell? ⟨q, 1, none⟩ = some (.int .u64 S0) ∧ w'.cell? ⟨q, 2, none⟩ = some (.bool ro0)) (first | exact ⟨f0, f1, f2⟩ | exact ⟨x0, x1, x2⟩ | exact ⟨y0, y1, y2⟩ | exact ⟨u0, u1, u2⟩)
    (first
    | (go_simp; go_at_call 15; refine (gknown_any _).mono ?_; rintro e V9 ⟨rfl, b9⟩; have H9 : Hid (Blk V9 q (expL T0 S0 ro0) 47 ∧ Below q w V9) := ⟨H8.out.1.drew.below b9 H8.out.1.lt, below_via H8.out.2.1.drew H.out.2.2.2.1 b9⟩; clear b9; have x0 : V9.cell? ⟨q, 0, none⟩ = some (.int .u32 T0) := H9.out.1.cell 0; have x1 : V9.cell? ⟨q, 1, none⟩ = some (.int .u64 S0) := H9.out.1.cell 1; have x2 : V9.cell? ⟨q, 2, none⟩ = some (.bool ro0) := H9.out.1.cell 2)
    | (go_simp; go_at_call 26; refine (cO _).mono ?_; rintro e V10 ⟨A10, k10, C10, rfl, d10, b10⟩; have H10 : Hid (Blk V10 q (expL T0 S0 ro0) 47 ∧ Below q w V10 ∧ BIn V10 A10 k10 L9) := ⟨H9.out.1.below b10 H9.out.1.lt, below_via H9.out.2 H.out.2.2.2.1 b10, d10⟩; clear d10 b10; have y0 : V10.cell? ⟨q, 0, none⟩ = some (.int .u32 T0) := H10.out.1.cell 0; have y1 : V10.cell? ⟨q, 1, none⟩ = some (.int .u64 S0) := H10.out.1.cell 1; have y2 : V10.cell? ⟨q, 2, none⟩ = some (.bool ro0) := H10.out.1.cell 2)
    | (go_simp; go_at_call 27; refine (cR _).mono ?_; rintro e V11 ⟨A11, k11, C11, rfl, d11, b11⟩; have z11 := H10.out.1.below b11 H10.out.1.lt; have H11 : Hid (Below q w V11 ∧ BIn V11 A10 k10 L9 ∧ BIn V11 A11 k11 L9) := ⟨below_via H10.out.2.1 H.out.2.2.2.1 b11, H10.out.2.2.below b11, d11⟩; clear d11 b11; have u0 : V11.cell? ⟨q, 0, none⟩ = some (.int .u32 T0) := z11.cell 0; have u1 : V11.cell? ⟨q, 1, none⟩ = some (.int .u64 S0) := z11.cell 1; have u2 : V11.cell? ⟨q, 2, none⟩ = some (.bool ro0) := z11.cell 2)
    | (go_simp; go_at_call 14; refine (sameBytes_of A10 k10 C10 L9 A11 k11 C11 L9 V11 H11.out.2.1 H11.out.2.2 rfl).mono ?_; rintro e V11 ⟨rfl, rfl⟩))
  go_wp2
  go_ret
  exact ⟨rfl, H11.out.1⟩

set_option maxRecDepth 100000 in
theorem lifted (os : Os) (started : os.Started) (H : Type) (enc : TypeId × Value → H) :
    ReturnsInHanded {} Try.checked os 5 .any (Rows.greetWritesSpec.pre6 enc Try.prog Try.f5 Rows.greetWritesRow.domain false) (Rows.greetWritesSpec.post enc Try.prog Try.f5 false true false false) := by
  refine returnsInHanded_of_change (C := Try.checked) own started (by kernel_rfl) Try.func5
    (ChangeSpec.witness6 (enc := enc) (C := Try.checked) false ⟨#[], #[.agg #[.int .u32 0, .int .u64 0, .bool false], .int .u32 0, .int .u32 0, .slice none 0 0, .int .i64 0, .bool false], []⟩ 8 (by kernel_rfl) (by kernel_rfl) (by kernel_rfl) (by kernel_rfl)) ?_
  intro W base args ds gs before hval0 hW hcnd _
  have hval : ∀ (j : Nat) t v, Try.f5.params[j]? = some t → args[j]? = some v → Value.okWide Try.prog W .any base t v := hval0
  have hW' := hW
  obtain ⟨p, q, hA0, hV, rfl, hfz, hnd⟩ := hW
  have hA : DataW.TrodAll enc Try.prog W 0 (fun _ => true) true Try.f5.params.toList args.toList ds p := hA0
  rw [Try.params5] at hA hval
  obtain ⟨v0, vs0, d0, ds0, p0, q0, hargs, rfl, rfl, h0, r0⟩ := trodAll_cons hA
  obtain ⟨v1, vs1, d1, ds1, p1, q1, rfl, rfl, rfl, h1, r1⟩ := trodAll_cons r0
  obtain ⟨v2, vs2, d2, ds2, p2, q2, rfl, rfl, rfl, h2, r2⟩ := trodAll_cons r1
  obtain ⟨v3, vs3, d3, ds3, p3, q3, rfl, rfl, rfl, h3, r3⟩ := trodAll_cons r2
  obtain ⟨v4, vs4, d4, ds4, p4, q4, rfl, rfl, rfl, h4, r4⟩ := trodAll_cons r3
  obtain ⟨v5, vs5, d5, ds5, p5, q5, rfl, rfl, rfl, h5, r5⟩ := trodAll_cons r4
  obtain ⟨rfl, rfl, rfl⟩ := trodAll_nil r5
  obtain rfl : args = #[v0, v1, v2, v3, v4, v5] := by cases args; simp_all
  obtain ⟨rfl, rfl⟩ := trodVars_none hV
  have k0 := h0
  have lt0 : ∀ x ∈ p0, x.block < W.heap.size := by obtain ⟨m, hm⟩ := k0; exact DataW.trod_lt m _ _ _ hm
  obtain ⟨T0, S0, ro0, rfl, w0⟩ := open_export (hval 0 47 v0 rfl rfl) h0
  obtain ⟨a1, rfl, rfl, rfl, w1⟩ := open_int Try.underlying30 (hval 1 30 v1 rfl rfl) h1
  obtain ⟨a2, rfl, rfl, rfl, w2⟩ := open_int Try.underlying30 (hval 2 30 v2 rfl rfl) h2
  obtain ⟨a3, len3, cap3, rfl⟩ := okWide_slice Try.underlying22 (hval 3 22 v3 rfl rfl)
  have k3 := h3
  have lt3 : ∀ x ∈ p3, x.block < W.heap.size := by obtain ⟨m, hm⟩ := k3; exact DataW.trod_lt m _ _ _ hm
  obtain ⟨z3, w3⟩ : ∃ zs, IsRow .u8 W a3 len3 cap3 zs := by
    obtain ⟨fuel, hf⟩ := h3
    rcases open_ints Try.underlying22 Try.underlying5 (by kernel_rfl) hf with ⟨hcs, _⟩ | ⟨x, l, c, zs, hcs, _, hl, hm, hz, _, hcell, hwz⟩
    · simp [Value.cells] at hcs
      obtain ⟨rfl, rfl, rfl⟩ := hcs
      exact ⟨[], .inl ⟨rfl, rfl, rfl, rfl⟩⟩
    · simp [Value.cells] at hcs
      obtain ⟨rfl, rfl, rfl⟩ := hcs
      exact ⟨zs, .inr ⟨_, rfl, hl, hm, by simpa using hz, hcell, hwz⟩⟩
  obtain ⟨a4, rfl, rfl, rfl, w4⟩ := open_int Try.underlying3 (hval 4 3 v4 rfl rfl) h4
  obtain ⟨a5, rfl, rfl, rfl⟩ := open_bool Try.underlying4 (hval 5 4 v5 rfl rfl) h5
  clear hA0 hval0
  refine (walk T0 S0 ro0 a1 a2 a3 len3 cap3 z3 a4 a5 W w0 w1 w2 w3 w4).mono fun e W' ⟨he, bel⟩ => ?_
  subst he
  exact ⟨_, rfl, _, _, _, [], _, [], hW', trodAll_mk1 (shut_bool Try.underlying4 _), (trodAll_cons_mk (Below.trod laidOut (by kernel_rfl) (of_decide_eq_true (by kernel_rfl)) k0 bel lt0) (trodAll_cons_mk (shut_int Try.underlying30 w1) (trodAll_cons_mk (shut_int Try.underlying30 w2) (trodAll_cons_mk (Below.trod laidOut (by kernel_rfl) (of_decide_eq_true (by kernel_rfl)) k3 bel lt3) (trodAll_cons_mk (shut_int Try.underlying3 w4) (trodAll_cons_mk (shut_bool Try.underlying4 _) trodAll_mk0)))))), rfl, bel.frame _, fun h => by cases h⟩

theorem over : Rows.greetWritesRow.holds Try.pinned (OpenSpec.ofChange Rows.greetWritesSpec) :=
  OpenClaim.holds_of_wide 5 Try.f5 rfl rfl rfl rfl rfl rfl rfl ⟨rfl, rfl, rfl, rfl, rfl⟩ rfl rfl rfl rfl rfl (by kernel_rfl) Try.func5 (by kernel_rfl)
    (of_decide_eq_true (by kernel_rfl)) (by unfold Func.isWrapper; first | (rw [if_pos (by decide +kernel)]; kernel_rfl) | (rw [if_neg (by decide +kernel)]; exact ⟨rfl, rfl⟩))
    (fun os started H enc _ => lifted os started H enc)

end Go.Proofs.Ytkegpgmmlmineaa.greetWrites
namespace Go.Proofs.Ytkegpgmmlmineaa
/-- The statement. -/
theorem greetWrites_holds : Rows.GreetWritesSaid := greetWrites.over
#print axioms greetWrites_holds
end Go.Proofs.Ytkegpgmmlmineaa
