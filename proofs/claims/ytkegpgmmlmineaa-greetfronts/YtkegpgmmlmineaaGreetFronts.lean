/- What stands behind an option makes no difference to it; a front of its bytes is not enough, and no error. -/
import Derived.Test.YtkegpgmmlmineaaRows
import Derived.Test.YtkegpgmmlmineaaGHead
import Derived.WalkKit
import Derived.ProofKit
import Derived.OpenShut
import Derived.ShutString
import Derived.ChangeOld
import Derived.Below
namespace Go.Proofs.Ytkegpgmmlmineaa.greetFronts
open Go.ChangeShapes Go.WideShapes Go.ChangeAt Go.RowKit
open Go.ChangeMaps (open_string shut_string)
set_option linter.unusedVariables false

theorem own : ownKnob Try.prog.godebug = none := by kernel_rfl
theorem laidOut : laidOutB Try.prog = true := by kernel_rfl

/-- WHAT THE WALK IS TOLD OF A SLICE OF INTEGERS THAT CAME IN: it is nil; or it leads to a row of 'cap' cells, the numbers 'zs' (the first 'len' are its elements, the rest its spare room), each fitting its kind. -/
def IsRow (k : IntKind) (w : World) (a : Option Addr) (len cap : Nat) (zs : List Int) : Prop :=
  (a = none ∧ len = 0 ∧ cap = 0 ∧ zs = []) ∨
  ∃ x, a = some x ∧ len ≤ cap ∧ cap ≤ maxLen ∧ zs.length = cap ∧ (∀ i, i < zs.length → w.cell? (x.add i) = some (.int k (zs.getD i 0))) ∧ ∀ n ∈ zs, (Lit.int k n).wf = true

set_option maxHeartbeats 2000000 in
theorem walk (a0 : Int) (a1 : Option Addr) (len1 cap1 : Nat) (z1 : List Int) (a2 : Option Addr) (len2 cap2 : Nat) (z2 : List Int) (a3 : Int) (w : World) (w0 : (Lit.int .u32 a0).wf = true) (w1 : IsRow .u8 w a1 len1 cap1 z1) (w2 : IsRow .u8 w a2 len2 cap2 z2) (w3 : (Lit.int .i64 a3).wf = true) :
    Calls Try.prog 6 #[.int .u32 a0, .slice a1 len1 cap1, .slice a2 len2 cap2, .int .i64 a3] w fun e w' => e = .returned (.bool true) ∧ Below w.heap.size w w' := by
  obtain ⟨hx, hxc, hxn⟩ := row_nin w1
  obtain ⟨hy, hyc, hyn⟩ := row_nin w2
  obtain ⟨D, eD⟩ : ∃ D, D = z1.take len1 := ⟨_, rfl⟩
  obtain ⟨Y, eY⟩ : ∃ Y, Y = z2.take len2 := ⟨_, rfl⟩
  rw [← eD] at hx
  rw [← eY] at hy
  have bk := bounds_u32 w0
  have b3 := bounds_i64 w3
  have H : Hid (BIn w a1 len1 D ∧ (a1 = none → len1 = 0 ∧ cap1 = 0) ∧ BIn w a2 len2 Y ∧ (a2 = none → len2 = 0 ∧ cap2 = 0)) := ⟨hx.b, hxn, hy.b, hyn⟩
  clear hx hxc hxn eD hy hyc hyn eY w0 w1 w2 w3
  by_cases h1 : (1024 : Int) < len1
  · go_enter Try.func6, Try.ntmps6
    go_wp2_with (go_at_call 15; refine (gknown_any _).mono ?_; rintro e W ⟨rfl, b⟩)
    go_ret
    exact ⟨rfl, b⟩
  have d1 : decide (1024 < (len1 : Int)) = false := decide_eq_false (by omega)
  by_cases h2 : (3000 : Int) < len2
  · go_enter Try.func6, Try.ntmps6
    go_wp2_with (go_at_call 15; refine (gknown_any _).mono ?_; rintro e W ⟨rfl, b⟩)
    go_ret
    exact ⟨rfl, b⟩
  have d2 : decide (3000 < (len2 : Int)) = false := decide_eq_false (by omega)
  have n1 : len1 ≤ 1024 := by omega
  have n2 : len2 ≤ 3000 := by omega
  obtain ⟨M, hM⟩ : ∃ M, (if a3 < 0 then (0 : Int) else a3) = M := ⟨_, rfl⟩
  have hM0 : 0 ≤ M := by rw [← hM]; split <;> omega
  have hM1 : M ≤ 9223372036854775807 := by rw [← hM]; split <;> omega
  have hp : (0 : Int) < 16 + (len1 : Int) := by omega
  obtain ⟨t, ht⟩ : ∃ t : Nat, M % (16 + (len1 : Int)) = t := ⟨(M % (16 + (len1 : Int))).toNat, by rw [Int.toNat_of_nonneg (Int.emod_nonneg _ (by omega))]⟩
  have htl : t < 16 + len1 := by have := Int.emod_lt_of_pos M hp; omega
  have hDl := H.out.1.1
  obtain ⟨r1, r2, r3, r4⟩ := next_whole a0 len1 D Y (by omega) hDl n1
  obtain ⟨q1, q2⟩ := next_front a0 len1 t D (by omega) hDl n1 htl
  obtain ⟨P, eP⟩ : ∃ P, P = hd16 a0 (len1 : Int) := ⟨_, rfl⟩
  have hPf := hd_fits a0 len1 (by omega) (by omega) (by omega) (by omega)
  rw [← eP] at r1 r2 r3 r4 q1 q2 hPf
  have HP : Hid (P = hd16 a0 (len1 : Int) ∧ (∀ z ∈ P, Fits8 z) ∧ nextE ((P ++ D) ++ Y) = 0 ∧ nextK ((P ++ D) ++ Y) = a0 ∧ nextC ((P ++ D) ++ Y) = 16 + (len1 : Int) ∧ nextD ((P ++ D) ++ Y) = D ∧ nextE ((P ++ D).take t) = 70 ∧ nextC ((P ++ D).take t) = 0 ∧ t < 16 + len1) := ⟨eP, hPf, r1, r2, r3, r4, q1, q2, htl⟩
  clear r1 r2 r3 r4 q1 q2 hPf eP htl hDl
  go_enter Try.func6, Try.ntmps6
  go_wp2_with fail
  refine (gknown_any _).mono ?_
  rintro e V ⟨rfl, b1⟩
  have B1 : Hid (Below w.heap.size w V) := b1
  clear b1
  go_upto_region 4 with fail
  have own0 := own_lit (w := V) (g := V.heap.size) (n := 16) (L := P) (C := #[.int .u8 73, .int .u8 72, .int .u8 65, .int .u8 86, .int .u8 69, .int .u8 79, .int .u8 80, .int .u8 84, .int .u8 (a0 / 16777216), .int .u8 (a0 / 65536 % 256), .int .u8 (a0 / 256 % 256), .int .u8 (a0 % 256), .int .u8 0, .int .u8 0, .int .u8 ((len1 : Int) / 256), .int .u8 ((len1 : Int) % 256)]) rfl (by rw [HP.out.1]; rfl) (by rw [HP.out.1]; rfl) (by unfold maxLen; omega)
  have bw : Below w.heap.size w (V.alloc (.cells #[.int .u8 73, .int .u8 72, .int .u8 65, .int .u8 86, .int .u8 69, .int .u8 79, .int .u8 80, .int .u8 84, .int .u8 (a0 / 16777216), .int .u8 (a0 / 65536 % 256), .int .u8 (a0 / 256 % 256), .int .u8 (a0 % 256), .int .u8 0, .int .u8 0, .int .u8 ((len1 : Int) / 256), .int .u8 ((len1 : Int) % 256)] 5)) := B1.out.alloc B1.out.size _
  have hsz : V.heap.size ≤ (V.alloc (.cells #[.int .u8 73, .int .u8 72, .int .u8 65, .int .u8 86, .int .u8 69, .int .u8 79, .int .u8 80, .int .u8 84, .int .u8 (a0 / 16777216), .int .u8 (a0 / 65536 % 256), .int .u8 (a0 / 256 % 256), .int .u8 (a0 % 256), .int .u8 0, .int .u8 0, .int .u8 ((len1 : Int) / 256), .int .u8 ((len1 : Int) % 256)] 5)).heap.size := by simp
  obtain ⟨g, hg⟩ : ∃ g, g = V.heap.size := ⟨_, rfl⟩
  rw [← hg] at own0 hsz ⊢
  generalize hU : World.alloc V _ = U at own0 bw hsz ⊢
  have B2 : Hid (U.ownsRow g 5 1 (.slice (some ⟨g, 0, none⟩) 16 16) 16 (u8s P) ∧ Below w.heap.size w U ∧ g ≤ U.heap.size ∧ w.heap.size ≤ g ∧ BIn U a1 len1 D ∧ BIn U a2 len2 Y) := ⟨own0, bw, hsz, by rw [hg]; exact B1.out.size, H.out.1.below bw, H.out.2.2.1.below bw⟩
  clear own0 bw hsz hU hg
  go_upto_region 5 with (at_builtin; refine wpList_append_bin rfl (.tmp 50) (.tmp 51) rfl g (some ⟨g, 0, none⟩) 16 16 P rfl B2.out.1 a1 len1 cap1 D rfl B2.out.2.2.2.2.1 H.out.2.1 (by omega) B2.out.2.2.1 ?_; intro A3 C3 w3 ow3 b3)
  have fitP : ∀ z ∈ P ++ D, Fits8 z := by
    intro z hz
    rcases List.mem_append.1 hz with hz | hz
    · exact HP.out.2.1 z hz
    · exact H.out.1.2.2.1 z hz
  have hb3 : Below w.heap.size w w3 := B2.out.2.1.trans (b3.mono B2.out.2.2.2.1)
  have B3 : Hid (BIn w3 A3 (16 + len1) (P ++ D) ∧ (A3 = none → 16 + len1 = 0 ∧ C3 = 0) ∧ 16 + len1 ≤ C3 ∧ Below w.heap.size w w3 ∧ ∀ z ∈ P ++ D, Fits8 z) := ⟨own_bin ow3 (by unfold maxLen; omega) fitP, own_nil ow3, own_capN ow3, hb3, fitP⟩
  clear ow3 b3 fitP hb3
  go_wp2_with fail
  refine (lentBytes_of A3 (16 + len1) C3 (P ++ D) w3 B3.out.1 B3.out.2.1 (by omega)).mono ?_
  rintro e w4 ⟨A4, C4, rfl, ow4, b4⟩
  have B4 : Hid (w4.ownsRow w3.heap.size 5 1 (.slice A4 (16 + len1) C4) (16 + len1) (u8s (P ++ D)) ∧ Below w3.heap.size w3 w4 ∧ BIn w4 a2 len2 Y) := ⟨ow4, b4, (H.out.2.2.1.below B3.out.2.2.2.1).below b4⟩
  clear ow4 b4
  go_upto_region 7 with (at_builtin; refine wpList_append_bin rfl (.tmp 55) (.tmp 56) rfl w3.heap.size A4 (16 + len1) C4 (P ++ D) rfl B4.out.1 a2 len2 cap2 Y rfl B4.out.2.2 H.out.2.2.2 (by omega) B4.out.2.1.size ?_; intro A5 C5 w5 ow5 b5)
  have B5 : Hid (BIn w5 A5 (16 + len1 + len2) ((P ++ D) ++ Y) ∧ (A5 = none → 16 + len1 + len2 = 0 ∧ C5 = 0) ∧ 16 + len1 + len2 ≤ C5 ∧ Below w3.heap.size w3 w5) := by
    refine ⟨own_bin ow5 (by unfold maxLen; omega) ?_, own_nil ow5, own_capN ow5, B4.out.2.1.trans b5⟩
    intro z hz
    rcases List.mem_append.1 hz with hz | hz
    · exact B3.out.2.2.2.2 z hz
    · exact H.out.2.2.1.2.2.1 z hz
  clear ow5 b5
  go_wp2_with fail
  refine (next_of A5 (16 + len1 + len2) C5 ((P ++ D) ++ Y) w5 B5.out.1 B5.out.2.1 B5.out.2.2.1 (by omega)).mono ?_
  rw [HP.out.2.2.1, HP.out.2.2.2.1, HP.out.2.2.2.2.1, HP.out.2.2.2.2.2.1]
  rintro e w6 ⟨A6, k6, C6, rfl, d6, -, b6⟩
  have B6 : Hid (Below w3.heap.size w3 w6 ∧ BIn w6 A6 k6 D) := ⟨B5.out.2.2.2.trans (b6.mono B5.out.2.2.2.size), d6⟩
  clear d6 b6
  go_upto_region 8 with (refine wpList_store_mid rfl 32 (.tmp 11) (.tmp 61) rfl w6.heap.size 0 (optL a0 A6 k6 C6).toArray rfl rfl ?hT (opt_size _ _ _ _) (opt_all _ _ _ _) ?_; (case hT => exact opt_there _))
  obtain ⟨u0, u1⟩ := opt_kept w6 a0 A6 k6 C6
  generalize hU : World.setCells _ _ _ _ = U1 at u0 u1 ⊢
  have B7 : Hid (Below w3.heap.size w3 U1 ∧ BIn U1 A6 k6 D ∧ Blk U1 w6.heap.size (optL a0 A6 k6 C6) 32) := ⟨B6.out.1.trans (u1.mono B6.out.1.size), B6.out.2.below u1, u0⟩
  clear hU u0 u1
  have htc : t ≤ C3 := by have := HP.out.2.2.2.2.2.2.2.2; have := B3.out.2.2.1; omega
  have hsl := fun w => slice_front Try.underlying22 Try.one_bytes A3 (16 + len1) C3 t htc w
  go_upto_region 9 with fail
  rw [ht]
  have cN := next_of A3 t C3 ((P ++ D).take t) U1 ((B3.out.1.n.front t (by have := HP.out.2.2.2.2.2.2.2.2; omega)).b.below B7.out.1) (fun e => by have := B3.out.2.1 e; omega) htc (by have := HP.out.2.2.2.2.2.2.2.2; omega)
  rw [HP.out.2.2.2.2.2.2.1, HP.out.2.2.2.2.2.2.2.1] at cN
  obtain ⟨K9, hK9⟩ : ∃ K9, K9 = nextK ((P ++ D).take t) := ⟨_, rfl⟩
  rw [← hK9] at cN
  clear hK9 hM hM0 hM1 hp ht
  go_wp2_with fail
  refine cN.mono ?_
  rintro e w8 ⟨A8, k8, C8, rfl, -, -, b8⟩
  clear cN hsl htc
  have B8 : Hid (Below w3.heap.size w3 w8 ∧ BIn w8 A6 k6 D ∧ Blk w8 w6.heap.size (optL a0 A6 k6 C6) 32) := ⟨B7.out.1.trans (b8.mono B7.out.1.size), B7.out.2.1.below b8, B7.out.2.2.below b8 B7.out.2.2.lt⟩
  clear b8
  go_upto_region 10 with (refine wpList_store_mid rfl 32 (.tmp 15) (.tmp 74) rfl w8.heap.size 0 (optL K9 A8 k8 C8).toArray rfl rfl ?hT (opt_size _ _ _ _) (opt_all _ _ _ _) ?_; (case hT => exact opt_there _))
  obtain ⟨u0, u1⟩ := opt_kept w8 K9 A8 k8 C8
  generalize hU : World.setCells _ _ _ _ = U2 at u0 u1 ⊢
  have B9 : Hid (Below w3.heap.size w3 U2 ∧ BIn U2 A6 k6 D ∧ Blk U2 w6.heap.size (optL a0 A6 k6 C6) 32 ∧ Below w.heap.size w U2) := by
    have h1 : Below w3.heap.size w3 U2 := B8.out.1.trans (u1.mono B8.out.1.size)
    exact ⟨h1, B8.out.2.1.below u1, B8.out.2.2.below u1 B8.out.2.2.lt, B3.out.2.2.2.1.trans (h1.mono B3.out.2.2.2.1.size)⟩
  clear hU u0 u1
  have e0 : U2.cell? ⟨w6.heap.size, 0, none⟩ = some (.int .u32 a0) := B9.out.2.2.1.cell 0
  have e1 : U2.cell? ⟨w6.heap.size, 1, none⟩ = some (.slice A6 k6 C6) := B9.out.2.2.1.cell 1
  go_wp2_with fail
  refine (sameBytes_of A6 k6 C6 D a1 len1 cap1 D U2 B9.out.2.1 (H.out.1.below B9.out.2.2.2) rfl).mono ?_
  rintro e U2 ⟨rfl, rfl⟩
  go_wp2
  go_ret
  exact ⟨rfl, B9.out.2.2.2⟩

set_option maxRecDepth 100000 in
theorem lifted (os : Os) (started : os.Started) (H : Type) (enc : TypeId × Value → H) :
    ReturnsInHanded {} Try.checked os 6 .any (Rows.greetFrontsSpec.pre6 enc Try.prog Try.f6 Rows.greetFrontsRow.domain false) (Rows.greetFrontsSpec.post enc Try.prog Try.f6 false true false false) := by
  refine returnsInHanded_of_change (C := Try.checked) own started (by kernel_rfl) Try.func6
    (ChangeSpec.witness6 (enc := enc) (C := Try.checked) false ⟨#[], #[.int .u32 0, .slice none 0 0, .slice none 0 0, .int .i64 0], []⟩ 8 (by kernel_rfl) (by kernel_rfl) (by kernel_rfl) (by kernel_rfl)) ?_
  intro W base args ds gs before hval0 hW hcnd _
  have hval : ∀ (j : Nat) t v, Try.f6.params[j]? = some t → args[j]? = some v → Value.okWide Try.prog W .any base t v := hval0
  have hW' := hW
  obtain ⟨p, q, hA0, hV, rfl, hfz, hnd⟩ := hW
  have hA : DataW.TrodAll enc Try.prog W 0 (fun _ => true) true Try.f6.params.toList args.toList ds p := hA0
  rw [Try.params6] at hA hval
  obtain ⟨v0, vs0, d0, ds0, p0, q0, hargs, rfl, rfl, h0, r0⟩ := trodAll_cons hA
  obtain ⟨v1, vs1, d1, ds1, p1, q1, rfl, rfl, rfl, h1, r1⟩ := trodAll_cons r0
  obtain ⟨v2, vs2, d2, ds2, p2, q2, rfl, rfl, rfl, h2, r2⟩ := trodAll_cons r1
  obtain ⟨v3, vs3, d3, ds3, p3, q3, rfl, rfl, rfl, h3, r3⟩ := trodAll_cons r2
  obtain ⟨rfl, rfl, rfl⟩ := trodAll_nil r3
  obtain rfl : args = #[v0, v1, v2, v3] := by cases args; simp_all
  obtain ⟨rfl, rfl⟩ := trodVars_none hV
  obtain ⟨a0, rfl, rfl, rfl, w0⟩ := open_int Try.underlying30 (hval 0 30 v0 rfl rfl) h0
  obtain ⟨a1, len1, cap1, rfl⟩ := okWide_slice Try.underlying22 (hval 1 22 v1 rfl rfl)
  have k1 := h1
  have lt1 : ∀ x ∈ p1, x.block < W.heap.size := by obtain ⟨m, hm⟩ := k1; exact DataW.trod_lt m _ _ _ hm
  obtain ⟨z1, w1⟩ : ∃ zs, IsRow .u8 W a1 len1 cap1 zs := by
    obtain ⟨fuel, hf⟩ := h1
    rcases open_ints Try.underlying22 Try.underlying5 (by kernel_rfl) hf with ⟨hcs, _⟩ | ⟨x, l, c, zs, hcs, _, hl, hm, hz, _, hcell, hwz⟩
    · simp [Value.cells] at hcs
      obtain ⟨rfl, rfl, rfl⟩ := hcs
      exact ⟨[], .inl ⟨rfl, rfl, rfl, rfl⟩⟩
    · simp [Value.cells] at hcs
      obtain ⟨rfl, rfl, rfl⟩ := hcs
      exact ⟨zs, .inr ⟨_, rfl, hl, hm, by simpa using hz, hcell, hwz⟩⟩
  obtain ⟨a2, len2, cap2, rfl⟩ := okWide_slice Try.underlying22 (hval 2 22 v2 rfl rfl)
  have k2 := h2
  have lt2 : ∀ x ∈ p2, x.block < W.heap.size := by obtain ⟨m, hm⟩ := k2; exact DataW.trod_lt m _ _ _ hm
  obtain ⟨z2, w2⟩ : ∃ zs, IsRow .u8 W a2 len2 cap2 zs := by
    obtain ⟨fuel, hf⟩ := h2
    rcases open_ints Try.underlying22 Try.underlying5 (by kernel_rfl) hf with ⟨hcs, _⟩ | ⟨x, l, c, zs, hcs, _, hl, hm, hz, _, hcell, hwz⟩
    · simp [Value.cells] at hcs
      obtain ⟨rfl, rfl, rfl⟩ := hcs
      exact ⟨[], .inl ⟨rfl, rfl, rfl, rfl⟩⟩
    · simp [Value.cells] at hcs
      obtain ⟨rfl, rfl, rfl⟩ := hcs
      exact ⟨zs, .inr ⟨_, rfl, hl, hm, by simpa using hz, hcell, hwz⟩⟩
  obtain ⟨a3, rfl, rfl, rfl, w3⟩ := open_int Try.underlying3 (hval 3 3 v3 rfl rfl) h3
  clear hA0 hval0
  refine (walk a0 a1 len1 cap1 z1 a2 len2 cap2 z2 a3 W w0 w1 w2 w3).mono fun e W' ⟨he, bel⟩ => ?_
  subst he
  exact ⟨_, rfl, _, _, _, [], _, [], hW', trodAll_mk1 (shut_bool Try.underlying4 _), (trodAll_cons_mk (shut_int Try.underlying30 w0) (trodAll_cons_mk (Below.trod laidOut (by kernel_rfl) (of_decide_eq_true (by kernel_rfl)) k1 bel lt1) (trodAll_cons_mk (Below.trod laidOut (by kernel_rfl) (of_decide_eq_true (by kernel_rfl)) k2 bel lt2) (trodAll_cons_mk (shut_int Try.underlying3 w3) trodAll_mk0)))), rfl, bel.frame _, fun h => by cases h⟩

theorem over : Rows.greetFrontsRow.holds Try.pinned (OpenSpec.ofChange Rows.greetFrontsSpec) :=
  OpenClaim.holds_of_wide 6 Try.f6 rfl rfl rfl rfl rfl rfl rfl ⟨rfl, rfl, rfl, rfl, rfl⟩ rfl rfl rfl rfl rfl (by kernel_rfl) Try.func6 (by kernel_rfl)
    (of_decide_eq_true (by kernel_rfl)) (by unfold Func.isWrapper; first | (rw [if_pos (by decide +kernel)]; kernel_rfl) | (rw [if_neg (by decide +kernel)]; exact ⟨rfl, rfl⟩))
    (fun os started H enc _ => lifted os started H enc)

end Go.Proofs.Ytkegpgmmlmineaa.greetFronts
namespace Go.Proofs.Ytkegpgmmlmineaa
/-- The statement. -/
theorem greetFronts_holds : Rows.GreetFrontsSaid := greetFronts.over
#print axioms greetFronts_holds
end Go.Proofs.Ytkegpgmmlmineaa
