/- Decode of any blocks (at most 40, of at most 5000 bytes each; the statement answers true otherwise) is what the document's own Decode says, for every shape; the blocks stay. -/
import Derived.Test.YteokhkoaieibmaaRows
import Derived.Test.YteokhkoaieibmaaJ18
import Derived.Test.YteokhkoaieibmaaJ14
import Derived.Test.YteokhkoaieibmaaJ16
import Derived.WalkKit
import Derived.ProofKit
import Derived.OpenShut
import Derived.ShutString
import Derived.ChangeOld
import Derived.Below
namespace Go.Proofs.Yteokhkoaieibmaa.ckptDecodes
open Go.ChangeShapes Go.WideShapes Go.ChangeAt Go.RowKit
open Go.ChangeMaps (open_string shut_string)
set_option linter.unusedVariables false

theorem own : ownKnob Try.prog.godebug = none := by kernel_rfl
theorem laidOut : laidOutB Try.prog = true := by kernel_rfl

set_option maxRecDepth 20000 in
set_option maxHeartbeats 16000000 in
theorem walk (s0 : Sh) (a1 : Option Addr) (n1 c1 : Nat) (x1 : List (List Int)) (w : World) (w0 : ShF s0) (w1 : BsRaw w a1 n1 x1) :
    Calls Try.prog 4 #[.agg (shL s0).toArray, .slice a1 n1 c1] w fun e w' => e = .returned (.bool true) ∧ Below w.heap.size w w' := by
  obtain ⟨q, hq⟩ : ∃ q, q = w.heap.size := ⟨_, rfl⟩
  have H1 : Hid (BsRaw w a1 n1 x1 ∧ -9223372036854775808 ≤ s0.z) := ⟨w1, w0.1.1⟩
  have hn9 : n1 ≤ 9223372036854775807 := by have := w1.2.1; unfold maxLen at this; omega
  clear w0 w1
  have HB0 : Hid (Blk (w.alloc (.cells #[.int .i64 s0.z, .int .i64 s0.zb, .int .i64 s0.b, .int .i64 s0.r] 23)) q (shL s0) 23 ∧ Below w.heap.size w (w.alloc (.cells #[.int .i64 s0.z, .int .i64 s0.zb, .int .i64 s0.b, .int .i64 s0.r] 23))) :=
    ⟨Blk.new' hq.symm rfl, (Below.refl _ _).alloc (Nat.le_refl _) _⟩
  simp only [shL]
  go_enter Try.func4, Try.ntmps4
  go_upto_region 1 with fail
  rw [← hq]
  generalize hW1 : World.alloc w _ = W1 at HB0 ⊢
  clear hW1 hq
  by_cases g1 : (40 : Int) < (n1 : Int)
  · go_wp2
    go_ret
    exact ⟨rfl, HB0.out.2⟩
  have hn : n1 ≤ 40 := by omega
  clear hn9
  go_wp2
  go_loopw [5, 6] (fun v x wr => ∃ (i : Nat) (av : Option Addr) (cv : Nat), i ≤ n1 ∧ x = .int .i64 i ∧ v = .slice av i cv ∧ RowAt (fun k => W1.heap.size ≤ k) wr (.slice av i cv) (x1.take i) ∧ Below W1.heap.size W1 wr ∧ ∀ D ∈ x1.take i, D.length ≤ 5000) (fun _ x _ => n1 - (intOf x).toNat)
  case atStart => exact ⟨0, none, 0, Nat.zero_le _, rfl, rfl, by simpa using RowAt.nil _ _, Below.refl _ _, by simp⟩
  case round =>
    obtain ⟨i, av, cv, hi, rfl, rfl, row, bl, hsh⟩ := hrel
    have blw : Below w.heap.size w wr := HB0.out.2.trans (bl.mono HB0.out.2.size)
    rcases Nat.lt_or_ge i n1 with hlt | hge
    · obtain ⟨D, hD⟩ : ∃ D, x1[i]? = some D := ⟨x1[i]'(by have := H1.out.1.1; omega), by simp⟩
      obtain ⟨b', off, A1, L1, C1, ha, c1, bin, hnil, hcap⟩ := braw_at H1.out.1 hD
      subst ha
      have d1 : wr.cell? ⟨b', off + i, none⟩ = some (.slice A1 L1 C1) := by rw [blw.cell (old_block c1)]; exact c1
      have hi' : (i : Int) < n1 := by omega
      have hwi : IntKind.i64.wrap ((i : Int) + 1) = (i : Int) + 1 := by rw [IntKind.wrap_i64]; omega
      have binr := bin.below blw
      have HX : Hid (Below w.heap.size w wr) := blw
      by_cases h5 : 5000 < L1
      · have f1 : decide ((5000 : Int) < (L1 : Int)) = true := by simp; omega
        have f2 : decide (5000 < L1) = true := by simp [h5]
        clear h5 row bl hsh blw c1 bin hnil hcap hD binr
        go_wp2
        go_ret
        exact ⟨rfl, HX.out⟩
      have f1 : decide ((5000 : Int) < (L1 : Int)) = false := by simp; omega
      have f2 : decide (5000 < L1) = false := by simp; omega
      have htl : (x1.take i).length = i := by rw [List.length_take]; have := H1.out.1.1; omega
      have HR : Hid (Calls Try.prog 15 #[.slice A1 L1 C1] wr fun e X => ∃ ax nx cx, e = .returned (.slice ax nx cx) ∧ ∃ a9 c9 w9, (Builtin.append_ #[28, 28] 28 #[.slice av i cv, .slice (some ⟨X.heap.size, 0, none⟩) 1 1]).run Try.prog (X.alloc (.cells #[.slice ax nx cx] 39)) = .ok (.slice a9 (i + 1) c9) w9 ∧ RowAt (fun k => W1.heap.size ≤ k) w9 (.slice a9 (i + 1) c9) (x1.take (i + 1)) ∧ Below W1.heap.size W1 w9) := by
        refine (lentBytes_of A1 L1 C1 D wr binr hnil (by omega)).mono ?_
        rintro e X ⟨h, rfl, hbk, hb⟩
        obtain ⟨ax, cx, rfl⟩ := own_slice hbk.1
        have hqw : W1.heap.size ≤ wr.heap.size := bl.size
        have row' := row.out (below_out Non hb) (fun _ _ => id) (fun _ _ _ _ => id)
        obtain ⟨a9, c9, w9, e9, r9, g9, _⟩ := app_row row' (hbk.mono (O' := fun k => W1.heap.size ≤ k) (fun c hc _ => Nat.le_trans hqw hc)) rfl (by rw [htl]; omega) (fun k hk => Nat.le_trans hqw (Nat.le_trans hb.size hk))
        rw [htl] at e9 r9
        have bX : Below W1.heap.size W1 X := bl.trans (hb.mono hqw)
        refine ⟨ax, _, cx, rfl, a9, c9, w9, e9, by rw [take_snoc hD]; exact r9, ?_⟩
        obtain ⟨vs, r1, r2, _⟩ := row'
        exact (bX.alloc (by have := hb.size; omega) _).grown g9 (by simp; have := hb.size; omega) (fun k hk => r2 k hk)
      have HS : Hid (∀ D ∈ x1.take (i + 1), D.length ≤ 5000) := by
        intro D' hD'
        rw [take_snoc hD] at hD'
        rcases List.mem_append.1 hD' with h | h
        · exact hsh D' h
        · simp at h; rw [h, bin.1]; omega
      clear h5 row bl hsh blw c1 bin hnil hcap hD binr htl
      go_wp2_with (first
        | (go_at_call 15; refine HR.out.mono ?_; rintro e X ⟨ax, nx, cx, rfl, a9, c9, w9, e9, r9, b9⟩)
        | (at_builtin; refine wpList_append_run rfl (.tmp 26) (.tmp 32) 28 28 rfl _ _ rfl rfl _ _ e9 ?_))
      have H9 : Hid (RowAt (fun k => W1.heap.size ≤ k) w9 (.slice a9 (i + 1) c9) (x1.take (i + 1)) ∧ Below W1.heap.size W1 w9) := ⟨r9, b9⟩
      clear e9 r9 b9
      go_roundw
      case rel => exact ⟨i + 1, a9, c9, by omega, by simp, by simp, H9.out.1, H9.out.2, HS.out⟩
      case measure => simp [intOf]; omega
    · have hin : n1 = i := by omega
      subst hin
      have htk : x1.take n1 = x1 := List.take_of_length_le (by rw [H1.out.1.1]; exact Nat.le_refl _)
      rw [htk] at row hsh
      have hshort : Short x1 := fun D hD => by have := hsh D hD; omega
      have HL : Hid (BsIn wr av n1 x1 ∧ BsIn wr a1 n1 x1 ∧ (∀ D ∈ x1, D.length ≤ 5000) ∧ Below W1.heap.size W1 wr ∧ Below w.heap.size w wr) := ⟨row.bsin hshort, (braw_in H1.out.1 (by omega) hshort).below blw, hsh, bl, blw⟩
      have HC : Hid (∀ V : World, Below W1.heap.size W1 V → V.cell? ⟨q, 0, none⟩ = some (.int .i64 s0.z) ∧ V.cell? ⟨q, 1, none⟩ = some (.int .i64 s0.zb) ∧ V.cell? ⟨q, 2, none⟩ = some (.int .i64 s0.b) ∧ V.cell? ⟨q, 3, none⟩ = some (.int .i64 s0.r)) := by
        intro V hV
        have h := HB0.out.1.below hV HB0.out.1.lt
        exact ⟨h.cell 0, h.cell 1, h.cell 2, h.cell 3⟩
      clear row hsh htk hshort bl blw
      obtain ⟨E, hE⟩ : ∃ E, E = dkE s0 x1 := ⟨_, rfl⟩
      obtain ⟨S, hS⟩ : ∃ S, S = dkS s0 x1 := ⟨_, rfl⟩
      obtain ⟨xs, hxs⟩ : ∃ xs, xs = dkX s0 x1 := ⟨_, rfl⟩
      have hEw : IntKind.i64.wrap E = E := by
        have : E = 0 ∨ E = 141 := by rw [hE]; unfold dkE; split <;> simp
        rw [IntKind.wrap_i64]; omega
      have hEE : (E == E) = true := by simp
      have HP : Hid (Calls Try.prog 16 #[.agg #[.int .i64 s0.z, .int .i64 s0.zb, .int .i64 s0.b, .int .i64 s0.r], .slice av n1 cv] wr fun e w' => ∃ A n C, e = .returned (.tuple #[.agg #[.int .u64 S, .slice A n C], .int .u16 E]) ∧ KIn w' A n xs ∧ Below wr.heap.size wr w') := (kdecode_of s0 av n1 cv x1 wr H1.out.2 HL.out.1).mono (by rintro e w' ⟨A, n, C, rfl, h1, h2, h3⟩; exact ⟨A, n, C, by rw [hS, hE], by rw [hxs]; exact h1, h3⟩)
      have HD : Hid (∀ V, Below wr.heap.size wr V → Calls Try.prog 17 #[.agg #[.int .i64 s0.z, .int .i64 s0.zb, .int .i64 s0.b, .int .i64 s0.r], .slice a1 n1 c1] V fun e w' => ∃ A n C, e = .returned (.tuple #[.agg #[.int .u64 S, .slice A n C], .int .i64 E]) ∧ KIn w' A n xs ∧ Below V.heap.size V w') := fun V hV => (dkDecode_of s0 a1 n1 c1 x1 V H1.out.2 (HL.out.2.1.below hV) (by omega) HL.out.2.2.1).mono (by rintro e w' ⟨A, n, C, rfl, h1, h2, h3⟩; exact ⟨A, n, C, by rw [hS, hE], by rw [hxs]; exact h1, h3⟩)
      clear hE hS hxs
      obtain ⟨V0, hV0⟩ : ∃ V0 : World, V0 = wr := ⟨_, rfl⟩
      subst hV0
      obtain ⟨e0, e1, e2, e3⟩ := HC.out V0 HL.out.2.2.2.1
      go_upto_region 11 with (go_at_call 16; refine HP.out.mono ?_; rintro e W2 ⟨A2, n2, C2, rfl, k2, b2⟩)
      obtain ⟨r2, hr2⟩ : ∃ r2, r2 = W2.heap.size := ⟨_, rfl⟩
      rw [← hr2]
      have B2 : Blk (W2.alloc (.cells #[.int .u64 S, .slice A2 n2 C2] 27)) r2 [.int .u64 S, .slice A2 n2 C2] 27 := Blk.new' hr2.symm rfl
      have k2' : KIn (W2.alloc (.cells #[.int .u64 S, .slice A2 n2 C2] 27)) A2 n2 xs := k2.below ((Below.refl _ _).alloc (Nat.le_refl _) _)
      have b2' : Below V0.heap.size V0 (W2.alloc (.cells #[.int .u64 S, .slice A2 n2 C2] 27)) := b2.alloc b2.size _
      clear e0 e1 e2 e3 hr2 k2 b2
      generalize World.alloc W2 _ = W3 at B2 k2' b2' ⊢
      obtain ⟨e0, e1, e2, e3⟩ := HC.out W3 (HL.out.2.2.2.1.trans (b2'.mono HL.out.2.2.2.1.size))
      have H3 : Hid (Blk W3 r2 [.int .u64 S, .slice A2 n2 C2] 27 ∧ KIn W3 A2 n2 xs ∧ Below V0.heap.size V0 W3) := ⟨B2, k2', b2'⟩
      have HD3 : Hid (Calls Try.prog 17 #[.agg #[.int .i64 s0.z, .int .i64 s0.zb, .int .i64 s0.b, .int .i64 s0.r], .slice a1 n1 c1] W3 fun e w' => ∃ A n C, e = .returned (.tuple #[.agg #[.int .u64 S, .slice A n C], .int .i64 E]) ∧ KIn w' A n xs ∧ Below W3.heap.size W3 w') := HD.out W3 b2'
      clear B2 k2' b2' HD
      go_upto_region 12 with (go_at_call 17; refine HD3.out.mono ?_; rintro e W4 ⟨A4, n4, C4, rfl, k4, b4⟩)
      obtain ⟨r4, hr4⟩ : ∃ r4, r4 = W4.heap.size := ⟨_, rfl⟩
      rw [← hr4]
      have B4 : Blk (W4.alloc (.cells #[.int .u64 S, .slice A4 n4 C4] 27)) r4 [.int .u64 S, .slice A4 n4 C4] 27 := Blk.new' hr4.symm rfl
      have k4' : KIn (W4.alloc (.cells #[.int .u64 S, .slice A4 n4 C4] 27)) A4 n4 xs := k4.below ((Below.refl _ _).alloc (Nat.le_refl _) _)
      have b4' : Below W3.heap.size W3 (W4.alloc (.cells #[.int .u64 S, .slice A4 n4 C4] 27)) := b4.alloc b4.size _
      clear e0 e1 e2 e3 hr4 k4 b4 HD3
      generalize World.alloc W4 _ = W5 at B4 k4' b4' ⊢
      have B2 := H3.out.1.below b4' H3.out.1.lt
      have b5 : Below V0.heap.size V0 W5 := H3.out.2.2.trans (b4'.mono H3.out.2.2.size)
      have H5 : Hid (KIn W5 A2 n2 xs ∧ KIn W5 A4 n4 xs ∧ BsIn W5 av n1 x1 ∧ BsIn W5 a1 n1 x1 ∧ Below w.heap.size w W5) := ⟨H3.out.2.1.below b4', k4', HL.out.1.below b5, HL.out.2.1.below b5, HL.out.2.2.2.2.trans (b5.mono HL.out.2.2.2.2.size)⟩
      have f0 := B2.cell 0
      have f1 := B2.cell 1
      have f2 := B4.cell 0
      have f3 := B4.cell 1
      have HK : Hid (Calls Try.prog 11 #[] W5 fun e w' => ∃ bk : Below W5.heap.size W5 w', e = .returned (.bool true)) := (kknown_any W5).mono (fun _ _ h => ⟨h.2, h.1⟩)
      have HBs : Hid (∀ V : World, Below W5.heap.size W5 V → V.cell? ⟨r2, 0, none⟩ = some (.int .u64 S) ∧ V.cell? ⟨r2, 1, none⟩ = some (.slice A2 n2 C2) ∧ V.cell? ⟨r4, 0, none⟩ = some (.int .u64 S) ∧ V.cell? ⟨r4, 1, none⟩ = some (.slice A4 n4 C4)) := by
        intro V hV
        have h := B2.below hV B2.lt
        have h' := B4.below hV B4.lt
        exact ⟨h.cell 0, h.cell 1, h'.cell 0, h'.cell 1⟩
      clear f0 f1 f2 f3 B2 B4 k4' b4' b5
      go_wp2_with (first
        | (go_at_call 12; refine (sameBlocks_of av n1 cv a1 n1 c1 x1 _ ((H5.out.2.2.1.below bK).below bM) ((H5.out.2.2.2.1.below bK).below bM)).mono ?_; rintro e W8 ⟨rfl, k8, rfl⟩)
        | (go_at_call 18; refine (dkSame_of S A2 n2 C2 A4 n4 C4 xs W6 (H5.out.1.below bK) (H5.out.2.1.below bK)).mono ?_; rintro e W7 ⟨rfl, bM⟩)
        | (go_at_call 11; refine HK.out.mono ?_; rintro e W6 ⟨bK, rfl⟩; obtain ⟨f0, f1, f2, f3⟩ := HBs.out W6 bK))
      go_ret
      have b7 : Below W5.heap.size W5 W7 := bK.trans (bM.mono bK.size)
      have b8 : Below W5.heap.size W5 (W7.drewN k8) := b7.trans ((below_drewN _ _).mono b7.size)
      exact ⟨rfl, H5.out.2.2.2.2.trans (b8.mono H5.out.2.2.2.2.size)⟩

set_option maxRecDepth 100000 in
theorem lifted (os : Os) (started : os.Started) (H : Type) (enc : TypeId × Value → H) :
    ReturnsInHanded {} Try.checked os 4 .any (Rows.ckptDecodesSpec.pre6 enc Try.prog Try.f4 Rows.ckptDecodesRow.domain false) (Rows.ckptDecodesSpec.post enc Try.prog Try.f4 false true false false) := by
  refine returnsInHanded_of_change (C := Try.checked) own started (by kernel_rfl) Try.func4
    (ChangeSpec.witness6 (enc := enc) (C := Try.checked) false ⟨#[], #[.agg #[.int .i64 0, .int .i64 0, .int .i64 0, .int .i64 0], .slice none 0 0], []⟩ 8 (by kernel_rfl) (by kernel_rfl) (by kernel_rfl) (by kernel_rfl)) ?_
  intro W base args ds gs before hval0 hW hcnd _
  have hval : ∀ (j : Nat) t v, Try.f4.params[j]? = some t → args[j]? = some v → Value.okWide Try.prog W .any base t v := hval0
  have hW' := hW
  obtain ⟨p, q, hA0, hV, rfl, hfz, hnd⟩ := hW
  have hA : DataW.TrodAll enc Try.prog W 0 (fun _ => true) true Try.f4.params.toList args.toList ds p := hA0
  rw [Try.params4] at hA hval
  obtain ⟨v0, vs0, d0, ds0, p0, q0, hargs, rfl, rfl, h0, r0⟩ := trodAll_cons hA
  obtain ⟨v1, vs1, d1, ds1, p1, q1, rfl, rfl, rfl, h1, r1⟩ := trodAll_cons r0
  obtain ⟨rfl, rfl, rfl⟩ := trodAll_nil r1
  obtain rfl : args = #[v0, v1] := by cases args; simp_all
  obtain ⟨rfl, rfl⟩ := trodVars_none hV
  have k0 := h0
  have lt0 : ∀ x ∈ p0, x.block < W.heap.size := by obtain ⟨m, hm⟩ := k0; exact DataW.trod_lt m _ _ _ hm
  obtain ⟨s0, rfl, w0⟩ := open_shape (hval 0 23 v0 rfl rfl) h0
  obtain ⟨a1, n1, c1, rfl⟩ := okWide_slice Try.underlying28 (hval 1 28 v1 rfl rfl)
  have k1 := h1
  have lt1 : ∀ x ∈ p1, x.block < W.heap.size := by obtain ⟨m, hm⟩ := k1; exact DataW.trod_lt m _ _ _ hm
  obtain ⟨x1, w1⟩ := open_blocks h1
  clear hA0 hval0
  refine (walk s0 a1 n1 c1 x1 W w0 w1).mono fun e W' ⟨he, bel⟩ => ?_
  subst he
  exact ⟨_, rfl, _, _, _, [], _, [], hW', trodAll_mk1 (shut_bool Try.underlying4 _), (trodAll_cons_mk (Below.trod laidOut (by kernel_rfl) (of_decide_eq_true (by kernel_rfl)) k0 bel lt0) (trodAll_cons_mk (Below.trod laidOut (by kernel_rfl) (of_decide_eq_true (by kernel_rfl)) k1 bel lt1) trodAll_mk0)), rfl, bel.frame _, fun h => by cases h⟩

theorem over : Rows.ckptDecodesRow.holds Try.pinned (OpenSpec.ofChange Rows.ckptDecodesSpec) :=
  OpenClaim.holds_of_wide 4 Try.f4 rfl rfl rfl rfl rfl rfl rfl ⟨rfl, rfl, rfl, rfl, rfl⟩ rfl rfl rfl rfl rfl (by kernel_rfl) Try.func4 (by kernel_rfl)
    (of_decide_eq_true (by kernel_rfl)) (by unfold Func.isWrapper; first | (rw [if_pos (by decide +kernel)]; kernel_rfl) | (rw [if_neg (by decide +kernel)]; exact ⟨rfl, rfl⟩))
    (fun os started H enc _ => lifted os started H enc)

end Go.Proofs.Yteokhkoaieibmaa.ckptDecodes
namespace Go.Proofs.Yteokhkoaieibmaa
/-- The statement. -/
theorem ckptDecodes_holds : Rows.CkptDecodesSaid := ckptDecodes.over
#print axioms ckptDecodes_holds
end Go.Proofs.Yteokhkoaieibmaa
