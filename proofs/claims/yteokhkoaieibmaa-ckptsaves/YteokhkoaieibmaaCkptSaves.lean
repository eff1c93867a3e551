/- Save to any slot, of any state of at most 200 places, and Load ahead of it and behind it, on a device opened over any zones (a small shape, zones that are not heavy; else the statement answers what the chapter's examples answer), are what the document's own Save and Load do on its own device: the numbers, the states and all zones are alike. -/
import Derived.Test.YteokhkoaieibmaaRows
import Derived.Test.YteokhkoaieibmaaJ20
import Derived.Test.YteokhkoaieibmaaJ14
import Derived.Test.YteokhkoaieibmaaJ16
import Derived.WalkKit
import Derived.ProofKit
import Derived.OpenShut
import Derived.ShutString
import Derived.ChangeOld
import Derived.Below
namespace Go.Proofs.Yteokhkoaieibmaa.ckptSaves
open Go.ChangeShapes Go.WideShapes Go.ChangeAt Go.RowKit
open Go.ChangeMaps (open_string shut_string)
set_option linter.unusedVariables false

theorem own : ownKnob Try.prog.godebug = none := by kernel_rfl
theorem laidOut : laidOutB Try.prog = true := by kernel_rfl

set_option maxRecDepth 20000 in
set_option maxHeartbeats 16000000 in
theorem walk (s0 : Sh) (a1 : Option Addr) (n1 c1 : Nat) (x1 : List Zn) (a2 : Int) (s3 : Int) (A3 : Option Addr) (n3 C3 : Nat) (x3 : List Pl) (w : World) (w0 : ShF s0) (w1 : ZsRaw w a1 n1 x1 ∧ ZnF x1) (w2 : (Lit.int .i64 a2).wf = true) (w3 : FitsU s3 ∧ KIn w A3 n3 x3 ∧ n3 ≤ C3 ∧ (A3 = none → n3 = 0 ∧ C3 = 0)) :
    Calls Try.prog 5 #[.agg (shL s0).toArray, .slice a1 n1 c1, .int .i64 a2, .agg #[.int .u64 s3, .slice A3 n3 C3]] w fun e w' => e = .returned (.bool true) ∧ Below w.heap.size w w' := by
  obtain ⟨f3, k3, l3, _⟩ := w3
  obtain ⟨q, hq⟩ : ∃ q, q = w.heap.size := ⟨_, rfl⟩
  have H1 : Hid (KIn w A3 n3 x3 ∧ n3 ≤ C3 ∧ FitsU s3 ∧ ZsRaw w a1 n1 x1 ∧ -9223372036854775808 ≤ s0.z) := ⟨k3, l3, f3, w1.1, w0.1.1⟩
  clear k3 l3 f3 w0 w1
  have HB0 : Hid (Blk ((w.alloc (.cells #[.int .i64 s0.z, .int .i64 s0.zb, .int .i64 s0.b, .int .i64 s0.r] 23)).alloc (.cells #[.int .u64 s3, .slice A3 n3 C3] 27)) q (shL s0) 23 ∧ Blk ((w.alloc (.cells #[.int .i64 s0.z, .int .i64 s0.zb, .int .i64 s0.b, .int .i64 s0.r] 23)).alloc (.cells #[.int .u64 s3, .slice A3 n3 C3] 27)) (q + 1) [.int .u64 s3, .slice A3 n3 C3] 27 ∧ Below w.heap.size w ((w.alloc (.cells #[.int .i64 s0.z, .int .i64 s0.zb, .int .i64 s0.b, .int .i64 s0.r] 23)).alloc (.cells #[.int .u64 s3, .slice A3 n3 C3] 27))) :=
    ⟨(Blk.new' hq.symm rfl).alloc _, Blk.new' (by simp [hq]) rfl, ((Below.refl _ _).alloc (Nat.le_refl _) _).alloc (by simp) _⟩
  simp only [shL]
  go_enter Try.func5, Try.ntmps5
  go_upto_region 1 with fail
  rw [← hq]
  generalize hW1 : World.alloc (World.alloc w _) _ = W1 at HB0 ⊢
  clear hW1 hq
  have HC : Hid (∀ V : World, Below W1.heap.size W1 V → (V.cell? ⟨q, 0, none⟩ = some (.int .i64 s0.z) ∧ V.cell? ⟨q, 1, none⟩ = some (.int .i64 s0.zb) ∧ V.cell? ⟨q, 2, none⟩ = some (.int .i64 s0.b) ∧ V.cell? ⟨q, 3, none⟩ = some (.int .i64 s0.r)) ∧ V.cell? ⟨q + 1, 0, none⟩ = some (.int .u64 s3) ∧ V.cell? ⟨q + 1, 1, none⟩ = some (.slice A3 n3 C3)) := by
    intro V hV
    have h := HB0.out.1.below hV HB0.out.1.lt
    have h' := HB0.out.2.1.below hV HB0.out.2.1.lt
    exact ⟨⟨h.cell 0, h.cell 1, h.cell 2, h.cell 3⟩, h'.cell 0, h'.cell 1⟩
  have HB : Hid (Below w.heap.size w W1) := HB0.out.2.2
  clear HB0
  obtain ⟨⟨e0, e1, e2, e3⟩, -⟩ := HC.out _ (Below.refl _ _)
  obtain ⟨Sm, hSm⟩ : ∃ Sm, Sm = decide (SmallS s0) := ⟨_, rfl⟩
  have HS : Hid (Calls Try.prog 19 #[.agg (shL s0).toArray] W1 fun e w' => e = .returned (.bool Sm) ∧ Below W1.heap.size W1 w') := by rw [hSm]; exact small_of s0 W1
  clear hSm
  go_upto_region 2 with (go_at_call 19; refine HS.out.mono ?_; rintro e W2 ⟨rfl, b2⟩)
  have H2 : Hid (Below W1.heap.size W1 W2 ∧ Below w.heap.size w W2) := ⟨b2, HB.out.trans (b2.mono HB.out.size)⟩
  clear HS b2 e0 e1 e2 e3
  have HK : Hid (∀ X : World, Calls Try.prog 11 #[] X fun e w' => e = .returned (.bool true) ∧ Below X.heap.size X w') := kknown_any
  have HHv : Hid (Calls Try.prog 20 #[.slice a1 n1 c1, .int .i64 200] W2 fun e w' => ∃ y : Bool, e = .returned (.bool y) ∧ w' = W2 ∧ (y = false → LightZ x1)) := tooHeavy_of a1 n1 c1 x1 W2 (H1.out.2.2.2.1.below H2.out.2)
  obtain ⟨-, o0, o1⟩ := HC.out W2 H2.out.1
  cases Sm
  · clear o0 o1
    go_wp2_with (go_at_call 11; refine (HK.out _).mono ?_; rintro e W3 ⟨rfl, b3⟩)
    go_ret
    exact ⟨rfl, H2.out.2.trans (b3.mono H2.out.2.size)⟩
  by_cases g1 : (200 : Int) < (n3 : Int)
  · go_wp2_with (first
      | (go_at_call 20; refine HHv.out.mono ?_; rintro e W3 ⟨y, rfl, hw3, hy⟩; replace hw3 := hw3.symm; subst hw3; cases y)
      | (go_at_call 11; refine (HK.out _).mono ?_; rintro e W3 ⟨rfl, b3⟩))
    all_goals go_ret
    all_goals exact ⟨rfl, H2.out.2.trans (b3.mono H2.out.2.size)⟩
  go_wp2_with (go_at_call 20; refine HHv.out.mono ?_; rintro e W3 ⟨y, rfl, hw3, hy⟩; replace hw3 := hw3.symm; subst hw3; cases y)
  rotate_left
  · refine (HK.out _).mono ?_
    rintro e W3 ⟨rfl, b3⟩
    go_wp2
    go_ret
    exact ⟨rfl, H2.out.2.trans (b3.mono H2.out.2.size)⟩
  have HL : Hid (LightZ x1) := hy (by first | rfl | trivial)
  clear hy HHv o0 o1
  refine (HK.out _).mono ?_
  rintro e W3 ⟨rfl, b3⟩
  have H3 : Hid (Below W1.heap.size W1 W3 ∧ Below w.heap.size w W3) := ⟨H2.out.1.trans (b3.mono H2.out.1.size), H2.out.2.trans (b3.mono H2.out.2.size)⟩
  clear b3
  go_upto_region 4 with fail
  obtain ⟨⟨e0, e1, e2, e3⟩, -, -⟩ := HC.out W3 H3.out.1
  have zin : ZsIn W3 a1 n1 x1 := (H1.out.2.2.2.1.below H3.out.2).light HL.out
  by_cases hwf : Wf s0 x1
  rotate_left
  · have HD : Hid (Calls Try.prog 21 #[.agg #[.int .i64 s0.z, .int .i64 s0.zb, .int .i64 s0.b, .int .i64 s0.r], .slice a1 n1 c1] W3 fun e w' => e = .returned (.tuple #[.pointer none, .pointer none]) ∧ Below W3.heap.size W3 w') := (devices_of s0 a1 n1 c1 x1 W3 H1.out.2.2.2.2 zin).mono (by rintro e w' ⟨b, (⟨_, rfl⟩ | ⟨h, _⟩)⟩; exact ⟨rfl, b⟩; exact absurd h hwf)
    clear zin hwf
    go_wp2_with (go_at_call 21; refine HD.out.mono ?_; rintro e W4 ⟨rfl, b4⟩)
    go_ret
    exact ⟨rfl, H3.out.2.trans (b4.mono H3.out.2.size)⟩
  have HD : Hid (Calls Try.prog 21 #[.agg #[.int .i64 s0.z, .int .i64 s0.zb, .int .i64 s0.b, .int .i64 s0.r], .slice a1 n1 c1] W3 fun e w' => ∃ p r, e = .returned (.tuple #[.pointer (some ⟨p, 0, none⟩), .pointer (some ⟨r, 0, none⟩)]) ∧ Tw W3 s0 p r x1 x1 (fun _ => False) w') := (devices_of s0 a1 n1 c1 x1 W3 H1.out.2.2.2.2 zin).mono (by rintro e w' ⟨b, (⟨h, _⟩ | ⟨_, p, r, rfl, h⟩)⟩; exact absurd hwf h; exact ⟨p, r, rfl, h⟩)
  have HW : Hid (Wf s0 x1) := hwf
  clear zin hwf
  go_upto_region 7 with (go_at_call 21; refine HD.out.mono ?_; rintro e W4 ⟨p, r, rfl, tw4⟩)
  have H4 : Hid (Tw W3 s0 p r x1 x1 (fun _ => False) W4) := tw4
  clear HD tw4 e0 e1 e2 e3
  obtain ⟨S, hS⟩ : ∃ S, S = (bestK s0 x1 2).1 := ⟨_, rfl⟩
  obtain ⟨xs, hxs⟩ : ∃ xs, xs = (bestK s0 x1 2).2.1 := ⟨_, rfl⟩
  obtain ⟨Aa, hAa⟩ : ∃ Aa, Aa = (bestK s0 x1 2).2.2.1 := ⟨_, rfl⟩
  obtain ⟨Er, hEr⟩ : ∃ Er, Er = (bestK s0 x1 2).2.2.2 := ⟨_, rfl⟩
  have hErw : IntKind.i64.wrap Er = Er := by
    have := best_err s0 x1 2
    rw [← hEr] at this
    rw [IntKind.wrap_i64]; omega
  have hbest : bestK s0 x1 2 = (S, xs, Aa, Er) := by rw [hS, hxs, hAa, hEr]
  have HA1 : Hid (Calls Try.prog 22 #[.pointer (some ⟨p, 0, none⟩)] W4 fun e w' => ∃ A n C, e = .returned (.tuple #[.agg #[.int .u64 S, .slice A n C], .int .i64 Aa, .int .u16 Er]) ∧ KIn w' A n xs ∧ Below W4.heap.size W4 w') := (H4.out.load HW.out).mono (by rintro e w' ⟨A, n, C, rfl, h1, h2, h3⟩; rw [hbest] at h1 ⊢; exact ⟨A, n, C, rfl, h1, h3⟩)
  have HA2 : Hid (∀ X Y, Tw W3 s0 p r x1 x1 X Y → Calls Try.prog 23 #[.pointer (some ⟨r, 0, none⟩)] Y fun e w' => ∃ A n C, e = .returned (.tuple #[.agg #[.int .u64 S, .slice A n C], .int .i64 Aa, .int .i64 Er]) ∧ KIn w' A n xs ∧ Below Y.heap.size Y w') := fun X Y hY => (hY.dload HW.out).mono (by rintro e w' ⟨A, n, C, rfl, h1, h2, h3⟩; rw [hbest] at h1 ⊢; exact ⟨A, n, C, rfl, h1, h3⟩)
  clear hS hxs hAa hEr hbest
  go_upto_region 8 with (go_at_call 22; refine HA1.out.mono ?_; rintro e W5 ⟨A5, n5, C5, rfl, k5, b5⟩)
  obtain ⟨ra, hra⟩ : ∃ ra, ra = W5.heap.size := ⟨_, rfl⟩
  rw [← hra]
  have H6 : Hid (Blk (W5.alloc (.cells #[.int .u64 S, .slice A5 n5 C5] 27)) ra [.int .u64 S, .slice A5 n5 C5] 27 ∧ KIn (W5.alloc (.cells #[.int .u64 S, .slice A5 n5 C5] 27)) A5 n5 xs ∧ Tw W3 s0 p r x1 x1 (fun x => x = ra) (W5.alloc (.cells #[.int .u64 S, .slice A5 n5 C5] 27)) ∧ W3.heap.size ≤ ra) := by
    refine ⟨Blk.new' hra.symm rfl, k5.below ((Below.refl _ _).alloc (Nat.le_refl _) _), H4.out.under (b5.alloc b5.size _) (fun x hx => ⟨.inr ?_, ?_⟩), ?_⟩
    · rw [hx, hra]; exact b5.size
    · rw [hx, hra]; simp
    · have h1 := H4.out.bel.size
      have h2 := b5.size
      omega
  clear hra k5 b5 HA1
  generalize World.alloc W5 _ = W6 at H6 ⊢
  have HA3 : Hid (Calls Try.prog 23 #[.pointer (some ⟨r, 0, none⟩)] W6 fun e w' => ∃ A n C, e = .returned (.tuple #[.agg #[.int .u64 S, .slice A n C], .int .i64 Aa, .int .i64 Er]) ∧ KIn w' A n xs ∧ Below W6.heap.size W6 w') := HA2.out _ W6 H6.out.2.2.1
  clear HA2
  go_upto_region 9 with (go_at_call 23; refine HA3.out.mono ?_; rintro e W7 ⟨A7, n7, C7, rfl, k7, b7⟩)
  obtain ⟨rb, hrb⟩ : ∃ rb, rb = W7.heap.size := ⟨_, rfl⟩
  rw [← hrb]
  have H8 : Hid (Blk (W7.alloc (.cells #[.int .u64 S, .slice A7 n7 C7] 27)) ra [.int .u64 S, .slice A5 n5 C5] 27 ∧ Blk (W7.alloc (.cells #[.int .u64 S, .slice A7 n7 C7] 27)) rb [.int .u64 S, .slice A7 n7 C7] 27 ∧ KIn (W7.alloc (.cells #[.int .u64 S, .slice A7 n7 C7] 27)) A5 n5 xs ∧ KIn (W7.alloc (.cells #[.int .u64 S, .slice A7 n7 C7] 27)) A7 n7 xs ∧ Tw W3 s0 p r x1 x1 (fun x => x = ra ∨ x = rb) (W7.alloc (.cells #[.int .u64 S, .slice A7 n7 C7] 27)) ∧ W3.heap.size ≤ ra ∧ ra < rb) := by
    have b8 : Below W6.heap.size W6 (W7.alloc (.cells #[.int .u64 S, .slice A7 n7 C7] 27)) := b7.alloc b7.size _
    have hlt := H6.out.1.lt
    have hsz := b7.size
    refine ⟨H6.out.1.below b8 hlt, Blk.new' hrb.symm rfl, H6.out.2.1.below b8, k7.below ((Below.refl _ _).alloc (Nat.le_refl _) _), H6.out.2.2.1.under b8 (fun x hx => ?_), H6.out.2.2.2, by omega⟩
    rcases hx with rfl | rfl
    · exact ⟨.inl rfl, by simp; omega⟩
    · exact ⟨.inr (by omega), by simp; omega⟩
  clear hrb k7 b7 HA3 H6
  generalize World.alloc W7 _ = W8 at H8 ⊢
  have m0 : W8.cell? ⟨ra, 0, none⟩ = some (.int .u64 S) := H8.out.1.cell 0
  have m1 : W8.cell? ⟨ra, 1, none⟩ = some (.slice A5 n5 C5) := H8.out.1.cell 1
  have d0 : W8.cell? ⟨rb, 0, none⟩ = some (.int .u64 S) := H8.out.2.1.cell 0
  have d1 : W8.cell? ⟨rb, 1, none⟩ = some (.slice A7 n7 C7) := H8.out.2.1.cell 1
  have HM : Hid (Calls Try.prog 18 #[.agg #[.int .u64 S, .slice A5 n5 C5], .agg #[.int .u64 S, .slice A7 n7 C7]] W8 fun e w' => e = .returned (.bool true) ∧ Below W8.heap.size W8 w') := dkSame_of S A5 n5 C5 A7 n7 C7 xs W8 H8.out.2.2.1 H8.out.2.2.2.1
  go_upto_region 11 with (go_at_call 18; refine HM.out.mono ?_; rintro e W9 ⟨rfl, b9⟩)
  have H9 : Hid (Blk W9 ra [.int .u64 S, .slice A5 n5 C5] 27 ∧ Blk W9 rb [.int .u64 S, .slice A7 n7 C7] 27 ∧ Tw W3 s0 p r x1 x1 (fun x => x = ra ∨ x = rb) W9 ∧ W3.heap.size ≤ ra ∧ ra < rb) := ⟨H8.out.1.below b9 H8.out.1.lt, H8.out.2.1.below b9 H8.out.2.1.lt, H8.out.2.2.2.2.1.same b9, H8.out.2.2.2.2.2⟩
  clear m0 m1 d0 d1 HM b9 H8 hErw
  have H3W : Hid (∀ V, Below W3.heap.size W3 V → Below W1.heap.size W1 V ∧ Below w.heap.size w V) := fun V hV => ⟨H3.out.1.trans (hV.mono H3.out.1.size), H3.out.2.trans (hV.mono H3.out.2.size)⟩
  obtain ⟨-, o0, o1⟩ := HC.out W9 (H3W.out _ H9.out.2.2.1.bel).1
  obtain ⟨G, hG⟩ : ∃ G, G = svE s0 a2 x3 := ⟨_, rfl⟩
  obtain ⟨zs2, hzs2⟩ : ∃ zs2, zs2 = svZ s0 x1 a2 s3 x3 := ⟨_, rfl⟩
  have hwf2 : Wf s0 zs2 := by rw [hzs2]; exact wf_svZ HW.out _ _ _
  have hGw : IntKind.i64.wrap G = G := by
    have := sv_err s0 a2 x3
    rw [← hG] at this
    rw [IntKind.wrap_i64]; omega
  have HS1 : Hid (Calls Try.prog 24 #[.pointer (some ⟨p, 0, none⟩), .int .i64 a2, .agg #[.int .u64 s3, .slice A3 n3 C3]] W9 fun e W' => e = .returned (.int .u16 G) ∧ Tw W3 s0 p r zs2 x1 (fun x => x = ra ∨ x = rb) W' ∧ ∀ g L t, (g = ra ∨ g = rb) → Blk W9 g L t → Blk W' g L t) := by
    rw [hG, hzs2]
    exact Tw.save a2 s3 A3 n3 C3 x3 H9.out.2.2.1 HW.out H1.out.2.2.1 (H1.out.1.below (H3W.out _ H9.out.2.2.1.bel).2) H1.out.2.1
  have HS2 : Hid (∀ Y, Tw W3 s0 p r zs2 x1 (fun x => x = ra ∨ x = rb) Y → Calls Try.prog 25 #[.pointer (some ⟨r, 0, none⟩), .int .i64 a2, .agg #[.int .u64 s3, .slice A3 n3 C3]] Y fun e W' => e = .returned (.int .i64 G) ∧ Tw W3 s0 p r zs2 zs2 (fun x => x = ra ∨ x = rb) W' ∧ ∀ g L t, (g = ra ∨ g = rb) → Blk Y g L t → Blk W' g L t) := by
    intro Y hY
    rw [hG]
    have h := Tw.dsave a2 s3 A3 n3 C3 x3 hY HW.out H1.out.2.2.1 (H1.out.1.below (H3W.out _ hY.bel).2) (by omega)
    rw [← hzs2] at h
    exact h
  have HW2 : Hid (Wf s0 zs2) := hwf2
  clear hG hzs2 hwf2
  go_upto_region 12 with (go_at_call 24; refine HS1.out.mono ?_; rintro e W10 ⟨rfl, tw10, kp10⟩)
  have H10 : Hid (Blk W10 ra [.int .u64 S, .slice A5 n5 C5] 27 ∧ Blk W10 rb [.int .u64 S, .slice A7 n7 C7] 27 ∧ Tw W3 s0 p r zs2 x1 (fun x => x = ra ∨ x = rb) W10 ∧ W3.heap.size ≤ ra ∧ ra < rb) := ⟨kp10 _ _ _ (.inl rfl) H9.out.1, kp10 _ _ _ (.inr rfl) H9.out.2.1, tw10, H9.out.2.2.2⟩
  have HS3 : Hid (Calls Try.prog 25 #[.pointer (some ⟨r, 0, none⟩), .int .i64 a2, .agg #[.int .u64 s3, .slice A3 n3 C3]] W10 fun e W' => e = .returned (.int .i64 G) ∧ Tw W3 s0 p r zs2 zs2 (fun x => x = ra ∨ x = rb) W' ∧ ∀ g L t, (g = ra ∨ g = rb) → Blk W10 g L t → Blk W' g L t) := HS2.out W10 tw10
  clear HS1 HS2 tw10 kp10 o0 o1 H9
  obtain ⟨-, o0, o1⟩ := HC.out W10 (H3W.out _ H10.out.2.2.1.bel).1
  go_upto_region 13 with (go_at_call 25; refine HS3.out.mono ?_; rintro e W11 ⟨rfl, tw11, kp11⟩)
  have H11 : Hid (Blk W11 ra [.int .u64 S, .slice A5 n5 C5] 27 ∧ Blk W11 rb [.int .u64 S, .slice A7 n7 C7] 27 ∧ Tw W3 s0 p r zs2 zs2 (fun x => x = ra ∨ x = rb) W11 ∧ W3.heap.size ≤ ra ∧ ra < rb) := ⟨kp11 _ _ _ (.inl rfl) H10.out.1, kp11 _ _ _ (.inr rfl) H10.out.2.1, tw11, H10.out.2.2.2⟩
  clear HS3 tw11 kp11 o0 o1 H10
  obtain ⟨S2, hS⟩ : ∃ S2, S2 = (bestK s0 zs2 2).1 := ⟨_, rfl⟩
  obtain ⟨xs2, hxs⟩ : ∃ xs2, xs2 = (bestK s0 zs2 2).2.1 := ⟨_, rfl⟩
  obtain ⟨Aa2, hAa⟩ : ∃ Aa2, Aa2 = (bestK s0 zs2 2).2.2.1 := ⟨_, rfl⟩
  obtain ⟨Er2, hEr⟩ : ∃ Er2, Er2 = (bestK s0 zs2 2).2.2.2 := ⟨_, rfl⟩
  have hErw : IntKind.i64.wrap Er2 = Er2 := by
    have := best_err s0 zs2 2
    rw [← hEr] at this
    rw [IntKind.wrap_i64]; omega
  have hbest : bestK s0 zs2 2 = (S2, xs2, Aa2, Er2) := by rw [hS, hxs, hAa, hEr]
  have HA1 : Hid (Calls Try.prog 22 #[.pointer (some ⟨p, 0, none⟩)] W11 fun e w' => ∃ A n C, e = .returned (.tuple #[.agg #[.int .u64 S2, .slice A n C], .int .i64 Aa2, .int .u16 Er2]) ∧ KIn w' A n xs2 ∧ Below W11.heap.size W11 w' ∧ Blk w' ra [.int .u64 S, .slice A5 n5 C5] 27) := (H11.out.2.2.1.load HW2.out).mono (by rintro e w' ⟨A, n, C, rfl, h1, h2, h3⟩; rw [hbest] at h1 ⊢; exact ⟨A, n, C, rfl, h1, h3, H11.out.1.below h3 H11.out.1.lt⟩)
  have HA2 : Hid (∀ X Y, Tw W3 s0 p r zs2 zs2 X Y → Calls Try.prog 23 #[.pointer (some ⟨r, 0, none⟩)] Y fun e w' => ∃ A n C, e = .returned (.tuple #[.agg #[.int .u64 S2, .slice A n C], .int .i64 Aa2, .int .i64 Er2]) ∧ KIn w' A n xs2 ∧ Below Y.heap.size Y w') := fun X Y hY => (hY.dload HW2.out).mono (by rintro e w' ⟨A, n, C, rfl, h1, h2, h3⟩; rw [hbest] at h1 ⊢; exact ⟨A, n, C, rfl, h1, h3⟩)
  clear hS hxs hAa hEr hbest
  go_upto_region 14 with (go_at_call 22; refine HA1.out.mono ?_; rintro e W12 ⟨A12, n12, C12, rfl, k12, b12, B12⟩; have m0 := B12.cell 0; have m1 := B12.cell 1; have z0 := B12.frozen 0; have z1 := B12.frozen 1; simp only [List.getElem?_cons_zero, List.getElem?_cons_succ] at m0 m1)
  have H13 : Hid (Blk ((W12.setCell ⟨ra, 0, none⟩ (.int .u64 S2)).setCell ⟨ra, 1, none⟩ (.slice A12 n12 C12)) ra [.int .u64 S2, .slice A12 n12 C12] 27 ∧ Blk ((W12.setCell ⟨ra, 0, none⟩ (.int .u64 S2)).setCell ⟨ra, 1, none⟩ (.slice A12 n12 C12)) rb [.int .u64 S, .slice A7 n7 C7] 27 ∧ KIn ((W12.setCell ⟨ra, 0, none⟩ (.int .u64 S2)).setCell ⟨ra, 1, none⟩ (.slice A12 n12 C12)) A12 n12 xs2 ∧ Tw W3 s0 p r zs2 zs2 (fun x => x = ra ∨ x = rb) ((W12.setCell ⟨ra, 0, none⟩ (.int .u64 S2)).setCell ⟨ra, 1, none⟩ (.slice A12 n12 C12)) ∧ W3.heap.size ≤ ra ∧ ra < rb) := by
    have e1 : Blk (W12.setCell ⟨ra, 0, none⟩ (.int .u64 S2)) ra [.int .u64 S2, .slice A5 n5 C5] 27 := B12.set 0 _
    have hne : rb ≠ ra := by have := H11.out.2.2.2.2; omega
    refine ⟨e1.set 1 _, ((H11.out.2.1.below b12 H11.out.2.1.lt).set_other hne _).set_other hne _, (k12.set (st_not B12) 0 _).set (st_not e1) 1 _, ?_, H11.out.2.2.2⟩
    exact ((H11.out.2.2.1.same b12).setX (.inl rfl) H11.out.2.2.2.1 0 _).setX (.inl rfl) H11.out.2.2.2.1 1 _
  clear m0 m1 z0 z1 k12 b12 B12 H11 HA1
  generalize World.setCell (World.setCell W12 _ _) _ _ = W13 at H13 ⊢
  have HA3 : Hid (Calls Try.prog 23 #[.pointer (some ⟨r, 0, none⟩)] W13 fun e w' => ∃ A n C, e = .returned (.tuple #[.agg #[.int .u64 S2, .slice A n C], .int .i64 Aa2, .int .i64 Er2]) ∧ KIn w' A n xs2 ∧ Below W13.heap.size W13 w' ∧ Blk w' rb [.int .u64 S, .slice A7 n7 C7] 27) := (HA2.out _ W13 H13.out.2.2.2.1).mono (by rintro e w' ⟨A, n, C, rfl, h1, h3⟩; exact ⟨A, n, C, rfl, h1, h3, H13.out.2.1.below h3 H13.out.2.1.lt⟩)
  clear HA2
  go_upto_region 15 with (go_at_call 23; refine HA3.out.mono ?_; rintro e W14 ⟨A14, n14, C14, rfl, k14, b14, B14⟩; have m0 := B14.cell 0; have m1 := B14.cell 1; have z0 := B14.frozen 0; have z1 := B14.frozen 1; simp only [List.getElem?_cons_zero, List.getElem?_cons_succ] at m0 m1)
  have H15 : Hid (Blk ((W14.setCell ⟨rb, 0, none⟩ (.int .u64 S2)).setCell ⟨rb, 1, none⟩ (.slice A14 n14 C14)) ra [.int .u64 S2, .slice A12 n12 C12] 27 ∧ Blk ((W14.setCell ⟨rb, 0, none⟩ (.int .u64 S2)).setCell ⟨rb, 1, none⟩ (.slice A14 n14 C14)) rb [.int .u64 S2, .slice A14 n14 C14] 27 ∧ KIn ((W14.setCell ⟨rb, 0, none⟩ (.int .u64 S2)).setCell ⟨rb, 1, none⟩ (.slice A14 n14 C14)) A12 n12 xs2 ∧ KIn ((W14.setCell ⟨rb, 0, none⟩ (.int .u64 S2)).setCell ⟨rb, 1, none⟩ (.slice A14 n14 C14)) A14 n14 xs2 ∧ Tw W3 s0 p r zs2 zs2 (fun x => x = ra ∨ x = rb) ((W14.setCell ⟨rb, 0, none⟩ (.int .u64 S2)).setCell ⟨rb, 1, none⟩ (.slice A14 n14 C14))) := by
    have e1 : Blk (W14.setCell ⟨rb, 0, none⟩ (.int .u64 S2)) rb [.int .u64 S2, .slice A7 n7 C7] 27 := B14.set 0 _
    have hlt := H13.out.2.2.2.2
    have hne : ra ≠ rb := by omega
    refine ⟨((H13.out.1.below b14 H13.out.1.lt).set_other hne _).set_other hne _, e1.set 1 _, ((H13.out.2.2.1.below b14).set (st_not B14) 0 _).set (st_not e1) 1 _, (k14.set (st_not B14) 0 _).set (st_not e1) 1 _, ?_⟩
    exact ((H13.out.2.2.2.1.same b14).setX (.inr rfl) (by omega) 0 _).setX (.inr rfl) (by omega) 1 _
  clear m0 m1 z0 z1 k14 b14 B14 H13 HA3
  generalize World.setCell (World.setCell W14 _ _) _ _ = W15 at H15 ⊢
  have m0 : W15.cell? ⟨ra, 0, none⟩ = some (.int .u64 S2) := H15.out.1.cell 0
  have m1 : W15.cell? ⟨ra, 1, none⟩ = some (.slice A12 n12 C12) := H15.out.1.cell 1
  have d0 : W15.cell? ⟨rb, 0, none⟩ = some (.int .u64 S2) := H15.out.2.1.cell 0
  have d1 : W15.cell? ⟨rb, 1, none⟩ = some (.slice A14 n14 C14) := H15.out.2.1.cell 1
  have HM : Hid (Calls Try.prog 18 #[.agg #[.int .u64 S2, .slice A12 n12 C12], .agg #[.int .u64 S2, .slice A14 n14 C14]] W15 fun e w' => e = .returned (.bool true) ∧ Tw W3 s0 p r zs2 zs2 (fun x => x = ra ∨ x = rb) w') := (dkSame_of S2 A12 n12 C12 A14 n14 C14 xs2 W15 H15.out.2.2.1 H15.out.2.2.2.1).mono (by rintro e w' ⟨h1, h2⟩; exact ⟨h1, H15.out.2.2.2.2.same h2⟩)
  have HZ1 : Hid (∀ Y, Tw W3 s0 p r zs2 zs2 (fun x => x = ra ∨ x = rb) Y → Calls Try.prog 27 #[.pointer (some ⟨p, 0, none⟩)] Y fun e w' => ∃ a n c, e = .returned (.slice a n c) ∧ ZsIn w' a n zs2 ∧ Tw W3 s0 p r zs2 zs2 (fun x => x = ra ∨ x = rb) w') := by
    intro Y hY
    refine (hY.zones HW2.out).mono ?_
    rintro e w' ⟨v, rfl, hv, hb⟩
    obtain ⟨a, c, rfl⟩ := hv.slice
    exact ⟨a, _, c, rfl, hv.zsin (fun z hz => HW2.out.short z hz), hY.same hb⟩
  have HZ2 : Hid (∀ Y a n, ZsIn Y a n zs2 → Tw W3 s0 p r zs2 zs2 (fun x => x = ra ∨ x = rb) Y → Calls Try.prog 28 #[.pointer (some ⟨r, 0, none⟩)] Y fun e w' => ∃ b m d, e = .returned (.slice b m d) ∧ ZsIn w' a n zs2 ∧ ZsIn w' b m zs2 ∧ Below w.heap.size w w') := by
    intro Y a n ha hY
    refine (hY.dzones HW2.out).mono ?_
    rintro e w' ⟨v, rfl, hv, hb⟩
    obtain ⟨b, c, rfl⟩ := hv.slice
    exact ⟨b, _, c, rfl, ha.below hb, hv.zsin (fun z hz => HW2.out.short z hz), (H3W.out _ (hY.same hb).bel).2⟩
  clear H15 H4
  go_wp2_with (first
    | (go_at_call 26; refine (sameZones_of za zn zc zb zm zd zs2 W18 zi zj).mono ?_; rintro e W19 ⟨rfl, k19, rfl⟩)
    | (go_at_call 28; refine (HZ2.out W17 za zn zi tw17).mono ?_; clear zi; rintro e W18 ⟨zb, zm, zd, rfl, zi, zj, b18⟩)
    | (go_at_call 27; refine (HZ1.out W16 tw16).mono ?_; rintro e W17 ⟨za, zn, zc, rfl, zi, tw17⟩)
    | (go_at_call 18; refine HM.out.mono ?_; rintro e W16 ⟨rfl, tw16⟩))
  go_ret
  exact ⟨rfl, b18.trans ((below_drewN _ _).mono b18.size)⟩

set_option maxRecDepth 100000 in
theorem lifted (os : Os) (started : os.Started) (H : Type) (enc : TypeId × Value → H) :
    ReturnsInHanded {} Try.checked os 5 .any (Rows.ckptSavesSpec.pre6 enc Try.prog Try.f5 Rows.ckptSavesRow.domain false) (Rows.ckptSavesSpec.post enc Try.prog Try.f5 false true false false) := by
  refine returnsInHanded_of_change (C := Try.checked) own started (by kernel_rfl) Try.func5
    (ChangeSpec.witness6 (enc := enc) (C := Try.checked) false ⟨#[], #[.agg #[.int .i64 0, .int .i64 0, .int .i64 0, .int .i64 0], .slice none 0 0, .int .i64 0, .agg #[.int .u64 0, .slice none 0 0]], []⟩ 8 (by kernel_rfl) (by kernel_rfl) (by kernel_rfl) (by kernel_rfl)) ?_
  intro W base args ds gs before hval0 hW hcnd _
  have hval : ∀ (j : Nat) t v, Try.f5.params[j]? = some t → args[j]? = some v → Value.okWide Try.prog W .any base t v := hval0
  have hW' := hW
  obtain ⟨p, q, hA0, hV, rfl, hfz, hnd⟩ := hW
  have hA : DataW.TrodAll enc Try.prog W 0 (fun _ => true) true Try.f5.params.toList args.toList ds p := hA0
  rw [Try.params5] at hA hval
  obtain ⟨v0, vs0, d0, ds0, p0, q0, hargs, rfl, rfl, h0, r0⟩ := trodAll_cons hA
  obtain ⟨v1, vs1, d1, ds1, p1, q1, rfl, rfl, rfl, h1, r1⟩ := trodAll_cons r0
  obtain ⟨v2, vs2, d2, ds2, p2, q2, rfl, rfl, rfl, h2, r2⟩ := trodAll_cons r1
  obtain ⟨v3, vs3, d3, ds3, p3, q3, rfl, rfl, rfl, h3, r3⟩ := trodAll_cons r2
  obtain ⟨rfl, rfl, rfl⟩ := trodAll_nil r3
  obtain rfl : args = #[v0, v1, v2, v3] := by cases args; simp_all
  obtain ⟨rfl, rfl⟩ := trodVars_none hV
  have k0 := h0
  have lt0 : ∀ x ∈ p0, x.block < W.heap.size := by obtain ⟨m, hm⟩ := k0; exact DataW.trod_lt m _ _ _ hm
  obtain ⟨s0, rfl, w0⟩ := open_shape (hval 0 23 v0 rfl rfl) h0
  obtain ⟨a1, n1, c1, rfl⟩ := okWide_slice Try.underlying47 (hval 1 47 v1 rfl rfl)
  have k1 := h1
  have lt1 : ∀ x ∈ p1, x.block < W.heap.size := by obtain ⟨m, hm⟩ := k1; exact DataW.trod_lt m _ _ _ hm
  obtain ⟨x1, w1⟩ := open_zones h1
  obtain ⟨a2, rfl, rfl, rfl, w2⟩ := open_int Try.underlying3 (hval 2 3 v2 rfl rfl) h2
  have k3 := h3
  have lt3 : ∀ x ∈ p3, x.block < W.heap.size := by obtain ⟨m, hm⟩ := k3; exact DataW.trod_lt m _ _ _ hm
  obtain ⟨s3, A3, n3, C3, x3, rfl, w3⟩ := open_state (hval 3 27 v3 rfl rfl) h3
  clear hA0 hval0
  refine (walk s0 a1 n1 c1 x1 a2 s3 A3 n3 C3 x3 W w0 w1 w2 w3).mono fun e W' ⟨he, bel⟩ => ?_
  subst he
  exact ⟨_, rfl, _, _, _, [], _, [], hW', trodAll_mk1 (shut_bool Try.underlying4 _), (trodAll_cons_mk (Below.trod laidOut (by kernel_rfl) (of_decide_eq_true (by kernel_rfl)) k0 bel lt0) (trodAll_cons_mk (Below.trod laidOut (by kernel_rfl) (of_decide_eq_true (by kernel_rfl)) k1 bel lt1) (trodAll_cons_mk (shut_int Try.underlying3 w2) (trodAll_cons_mk (Below.trod laidOut (by kernel_rfl) (of_decide_eq_true (by kernel_rfl)) k3 bel lt3) trodAll_mk0)))), rfl, bel.frame _, fun h => by cases h⟩

theorem over : Rows.ckptSavesRow.holds Try.pinned (OpenSpec.ofChange Rows.ckptSavesSpec) :=
  OpenClaim.holds_of_wide 5 Try.f5 rfl rfl rfl rfl rfl rfl rfl ⟨rfl, rfl, rfl, rfl, rfl⟩ rfl rfl rfl rfl rfl (by kernel_rfl) Try.func5 (by kernel_rfl)
    (of_decide_eq_true (by kernel_rfl)) (by unfold Func.isWrapper; first | (rw [if_pos (by decide +kernel)]; kernel_rfl) | (rw [if_neg (by decide +kernel)]; exact ⟨rfl, rfl⟩))
    (fun os started H enc _ => lifted os started H enc)

end Go.Proofs.Yteokhkoaieibmaa.ckptSaves
namespace Go.Proofs.Yteokhkoaieibmaa
/-- The statement. -/
theorem ckptSaves_holds : Rows.CkptSavesSaid := ckptSaves.over
#print axioms ckptSaves_holds
end Go.Proofs.Yteokhkoaieibmaa
