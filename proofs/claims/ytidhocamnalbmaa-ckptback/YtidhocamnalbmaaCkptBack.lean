/- A state of at most 200 places that Encode turns into blocks (for any shape) is read by Decode as it was; with the first or the last block left out it is none; with one byte written over it is one exactly if the byte is as it was. -/
import Derived.Test.YtidhocamnalbmaaRows
import Derived.Test.YtidhocamnalbmaaJ15
import Derived.Deep.DeepCutAuto
import Derived.WalkKit
import Derived.ProofKit
import Derived.OpenShut
import Derived.ShutString
import Derived.ChangeOld
import Derived.Below
namespace Go.Proofs.Ytidhocamnalbmaa.ckptBack
open Go.ChangeShapes Go.WideShapes Go.ChangeAt Go.RowKit
open Go.ChangeMaps (open_string shut_string)
set_option linter.unusedVariables false

theorem own : ownKnob Try.prog.godebug = none := by kernel_rfl
theorem laidOut : laidOutB Try.prog = true := by kernel_rfl

set_option maxRecDepth 20000 in
set_option maxHeartbeats 16000000 in
theorem walk (s0 : Sh) (s1 : Int) (A1 : Option Addr) (n1 C1 : Nat) (x1 : List Pl) (a2 : Int) (a3 : Int) (w : World) (w0 : ShF s0) (w1 : FitsU s1 ∧ KIn w A1 n1 x1 ∧ n1 ≤ C1 ∧ (A1 = none → n1 = 0 ∧ C1 = 0)) (w2 : (Lit.int .i64 a2).wf = true) (w3 : (Lit.int .u8 a3).wf = true) :
    Calls Try.prog 3 #[.agg (shL s0).toArray, .agg #[.int .u64 s1, .slice A1 n1 C1], .int .i64 a2, .int .u8 a3] w fun e w' => e = .returned (.bool true) ∧ Below w.heap.size w w' := by
  obtain ⟨f1, k1, l1, _⟩ := w1
  obtain ⟨q, hq⟩ : ∃ q, q = w.heap.size := ⟨_, rfl⟩
  have hc3 : Fits8 a3 := fits8 w3
  have hk2 : -9223372036854775808 ≤ a2 ∧ a2 ≤ 9223372036854775807 := bounds_i64 w2
  have H1 : Hid (KIn w A1 n1 x1 ∧ n1 ≤ C1 ∧ FitsU s1 ∧ -9223372036854775808 ≤ s0.z ∧ Fits8 a3) := ⟨k1, l1, f1, w0.1.1, hc3⟩
  clear k1 l1 f1 w0 w2 w3 hc3
  have HB0 : Hid (Blk ((w.alloc (.cells #[.int .i64 s0.z, .int .i64 s0.zb, .int .i64 s0.b, .int .i64 s0.r] 23)).alloc (.cells #[.int .u64 s1, .slice A1 n1 C1] 27)) q (shL s0) 23 ∧ Blk ((w.alloc (.cells #[.int .i64 s0.z, .int .i64 s0.zb, .int .i64 s0.b, .int .i64 s0.r] 23)).alloc (.cells #[.int .u64 s1, .slice A1 n1 C1] 27)) (q + 1) [.int .u64 s1, .slice A1 n1 C1] 27 ∧ Below w.heap.size w ((w.alloc (.cells #[.int .i64 s0.z, .int .i64 s0.zb, .int .i64 s0.b, .int .i64 s0.r] 23)).alloc (.cells #[.int .u64 s1, .slice A1 n1 C1] 27))) :=
    ⟨(Blk.new' hq.symm rfl).alloc _, Blk.new' (by simp [hq]) rfl, ((Below.refl _ _).alloc (Nat.le_refl _) _).alloc (by simp) _⟩
  simp only [shL]
  go_enter Try.func3, Try.ntmps3
  go_upto_region 1 with fail
  rw [← hq]
  generalize hW1 : World.alloc (World.alloc w _) _ = W1 at HB0 ⊢
  clear hW1 hq
  have HC : Hid (∀ V : World, Below W1.heap.size W1 V → (V.cell? ⟨q, 0, none⟩ = some (.int .i64 s0.z) ∧ V.cell? ⟨q, 1, none⟩ = some (.int .i64 s0.zb) ∧ V.cell? ⟨q, 2, none⟩ = some (.int .i64 s0.b) ∧ V.cell? ⟨q, 3, none⟩ = some (.int .i64 s0.r)) ∧ V.cell? ⟨q + 1, 0, none⟩ = some (.int .u64 s1) ∧ V.cell? ⟨q + 1, 1, none⟩ = some (.slice A1 n1 C1)) := by
    intro V hV
    have h := HB0.out.1.below hV HB0.out.1.lt
    have h' := HB0.out.2.1.below hV HB0.out.2.1.lt
    exact ⟨⟨h.cell 0, h.cell 1, h.cell 2, h.cell 3⟩, h'.cell 0, h'.cell 1⟩
  have HB : Hid (Below w.heap.size w W1) := HB0.out.2.2
  clear HB0
  obtain ⟨-, -, o1⟩ := HC.out _ (Below.refl _ _)
  by_cases g1 : (200 : Int) < (n1 : Int)
  · go_wp2_with (go_at_call 4; refine (kknown_any _).mono ?_; rintro e W3 ⟨rfl, b3⟩)
    go_ret
    exact ⟨rfl, HB.out.trans (b3.mono HB.out.size)⟩
  have hn : n1 ≤ 200 := by omega
  go_upto_region 3 with (go_at_call 4; refine (kknown_any _).mono ?_; rintro e W3 ⟨rfl, b3⟩)
  have H3 : Hid (Below W1.heap.size W1 W3) := b3
  clear b3 o1
  obtain ⟨⟨e0, e1, e2, e3⟩, o0, o1⟩ := HC.out W3 H3.out
  have HE : Hid (Calls Try.prog 5 #[.agg #[.int .i64 s0.z, .int .i64 s0.zb, .int .i64 s0.b, .int .i64 s0.r], .agg #[.int .u64 s1, .slice A1 n1 C1]] W3 (EncGot W3 s0 s1 x1)) := kencode_of s0 s1 A1 n1 C1 x1 W3 H1.out.2.2.2.1 H1.out.2.2.1 ((H1.out.1.below HB.out).below H3.out) H1.out.2.1
  go_upto_region 4 with (go_at_call 5; refine HE.out.mono ?_; rintro e W4 ⟨v4, rfl, r4, b4⟩)
  clear HE e0 e1 e2 e3 o0 o1
  have b14 : Below W1.heap.size W1 W4 := H3.out.trans (b4.mono H3.out.size)
  by_cases hE : ckE s0 x1 = 0
  rotate_left
  · have hol : ckO s0 s1 x1 = [] := by unfold ckO; rw [if_neg hE]
    have hc : ckE s0 x1 = 140 ∨ ckE s0 x1 = 141 := by
      unfold ckE at hE ⊢
      split at hE
      · split at hE
        · exact absurd rfl hE
        · rename_i h1 h2; rw [if_pos h1, if_neg h2]; exact .inl rfl
      · rename_i h1; rw [if_neg h1]; exact .inr rfl
    rw [hol] at r4
    obtain ⟨a5, c5, hv5⟩ := r4.slice
    subst hv5
    have HX : Hid (Below w.heap.size w W4) := HB.out.trans (b14.mono HB.out.size)
    clear r4 hE hol b4 b14
    simp only [List.length_nil]
    rcases hc with hc | hc
    · rw [hc]
      clear hc
      go_wp2
      go_ret
      exact ⟨rfl, HX.out⟩
    · rw [hc]
      clear hc
      go_wp2
      go_ret
      exact ⟨rfl, HX.out⟩
  rw [hE]
  obtain ⟨ls, hls⟩ : ∃ ls, ls = ckL s0 s1 x1 := ⟨_, rfl⟩
  have hol : ckO s0 s1 x1 = ls := by unfold ckO; rw [if_pos hE, hls]
  rw [hol] at r4
  obtain ⟨a5, c5, hv5⟩ := r4.slice
  subst hv5
  obtain ⟨nl, hnl⟩ : ∃ nl, nl = ls.length := ⟨_, rfl⟩
  rw [← hnl] at r4 ⊢
  have hfn : ∀ p ∈ x1, FitsN p.1 := fun p hp => (H1.out.1.2.2.1 p hp).1
  have hpos : 1 ≤ nl := by rw [hnl, hls, ckL_length]; exact mK_pos _ _
  have hnlz : nl ≤ 4096 := by
    have h1 : (nl : Int) ≤ s0.zb := by rw [hnl, hls, ckL_length]; exact (ckE_zero.1 hE).2
    have h2 := (ckE_zero.1 hE).1.1.2.2.2.1
    omega
  have hnc : nl ≤ c5 := by obtain ⟨vs, h1, _⟩ := r4; exact (own_cap h1).1
  have hsh : Short ls := by rw [hls]; exact ckL_short hE
  have HL : Hid (ls = ckL s0 s1 x1 ∧ nl = ls.length ∧ ckE s0 x1 = 0 ∧ (∀ p ∈ x1, FitsN p.1) ∧ RowAt (fun j => W3.heap.size ≤ j) W4 (.slice a5 nl c5) ls ∧ Short ls ∧ BsIn W4 a5 nl ls ∧ Below W1.heap.size W1 W4 ∧ Below w.heap.size w W4) := ⟨hls, hnl, hE, hfn, r4, hsh, r4.bsin hsh, b14, HB.out.trans (b14.mono HB.out.size)⟩
  have hd := dec_ok (s := s0) H1.out.2.2.1 hfn hE
  rw [← hls] at hd
  have HD1 : Hid (Calls Try.prog 6 #[.agg #[.int .i64 s0.z, .int .i64 s0.zb, .int .i64 s0.b, .int .i64 s0.r], .slice a5 nl c5] W4 fun e w' => ∃ A n C, e = .returned (.tuple #[.agg #[.int .u64 s1, .slice A n C], .int .u16 0]) ∧ KIn w' A n x1 ∧ Below W4.heap.size W4 w') := (kdecode_of s0 a5 nl c5 ls W4 H1.out.2.2.2.1 HL.out.2.2.2.2.2.2.1).mono (by rintro e w' ⟨A, n, C, rfl, h1, h2, h3⟩; exact ⟨A, n, C, by rw [hd.1, hd.2.1], by rw [← hd.2.2]; exact h1, h3⟩)
  have hc1 : ∀ b ∈ ls.drop 1, b ∈ ls := fun b hb => List.mem_of_mem_drop hb
  have hc2 : ∀ b ∈ ls.take (nl - 1), b ∈ ls := fun b hb => List.mem_of_mem_take hb
  have hk1 : dkE s0 (ls.drop 1) = 141 := dec_cut H1.out.2.2.1 hfn hE (by rw [← hls]; exact hc1) (by rw [← hls, List.length_drop]; omega)
  have hk3 : dkE s0 (ls.take (nl - 1)) = 141 := dec_cut H1.out.2.2.1 hfn hE (by rw [← hls]; exact hc2) (by rw [← hls, List.length_take]; omega)
  obtain ⟨ab, hab⟩ : ∃ ab, ab = if c5 = 1 then a5 else a5.map (·.add 1) := ⟨_, rfl⟩
  have HD2 : Hid (∀ X, Below W4.heap.size W4 X → Calls Try.prog 6 #[.agg #[.int .i64 s0.z, .int .i64 s0.zb, .int .i64 s0.b, .int .i64 s0.r], .slice ab (nl - 1) (c5 - 1)] X fun e w' => ∃ S A n C, e = .returned (.tuple #[.agg #[.int .u64 S, .slice A n C], .int .u16 141]) ∧ Below X.heap.size X w') := fun X hX => (kdecode_of s0 ab (nl - 1) (c5 - 1) (ls.drop 1) X H1.out.2.2.2.1 (by rw [hab]; exact (HL.out.2.2.2.2.2.2.1.below hX).back hpos hnc)).mono (by rintro e w' ⟨A, n, C, rfl, h1, h2, h3⟩; exact ⟨_, A, n, C, by rw [hk1], h3⟩)
  have HD3 : Hid (∀ X, Below W4.heap.size W4 X → Calls Try.prog 6 #[.agg #[.int .i64 s0.z, .int .i64 s0.zb, .int .i64 s0.b, .int .i64 s0.r], .slice a5 (nl - 1) c5] X fun e w' => ∃ S A n C, e = .returned (.tuple #[.agg #[.int .u64 S, .slice A n C], .int .u16 141]) ∧ Below X.heap.size X w') := fun X hX => (kdecode_of s0 a5 (nl - 1) c5 (ls.take (nl - 1)) X H1.out.2.2.2.1 ((HL.out.2.2.2.2.2.2.1.below hX).front (by omega))).mono (by rintro e w' ⟨A, n, C, rfl, h1, h2, h3⟩; exact ⟨_, A, n, C, by rw [hk3], h3⟩)
  have sb : ∀ X : World, (Instr.slice 29 (.slice a5 nl c5) (some (.int .i64 1)) none none).run Try.prog X = .ok (.slice ab (nl - 1) (c5 - 1)) X := fun X => by rw [hab]; exact slice_back Try.underlying29 Try.one_blocks a5 nl c5 1 hpos X
  have sf : ∀ X : World, (Instr.slice 29 (.slice a5 nl c5) none (some (.int .i64 ((nl - 1 : Nat) : Int))) none).run Try.prog X = .ok (.slice a5 (nl - 1) c5) X := fun X => slice_front Try.underlying29 Try.one_blocks a5 nl c5 (nl - 1) (by omega) X
  obtain ⟨m, hm⟩ : ∃ m, nl - 1 = m := ⟨_, rfl⟩
  have hw1 : IntKind.i64.wrap ((nl : Int) - 1) = (m : Int) := by rw [IntKind.wrap_i64]; omega
  have hw2 : IntKind.i64.wrap (m : Int) = (m : Int) := by rw [IntKind.wrap_i64]; omega
  have hw3 : (m : Int) ≤ (c5 : Int) := by omega
  have hw4 : (0 : Int) ≤ (m : Int) := by omega
  have hw5 : (nl : Int) - 1 = (m : Int) := by omega
  rw [hm] at HD2 HD3 sb sf
  have HS : Hid ((∀ X : World, (Instr.slice 29 (.slice a5 nl c5) (some (.int .i64 1)) none none).run Try.prog X = .ok (.slice ab m (c5 - 1)) X) ∧ ∀ X : World, (Instr.slice 29 (.slice a5 nl c5) none (some (.int .i64 (m : Int))) none).run Try.prog X = .ok (.slice a5 m c5) X) := ⟨sb, sf⟩
  clear hls hol r4 hnl hfn hsh hd hc1 hc2 hk1 hk3 hab b4 b14 hE sb sf hm
  obtain ⟨⟨e0, e1, e2, e3⟩, o0, o1⟩ := HC.out W4 HL.out.2.2.2.2.2.2.2.1
  go_upto_region 7 with (go_at_call 6; refine HD1.out.mono ?_; rintro e W5 ⟨A6, n6, C6, rfl, k6, b6⟩)
  obtain ⟨r5, hr5⟩ : ∃ r5, r5 = W5.heap.size := ⟨_, rfl⟩
  rw [← hr5]
  have B5 : Blk (W5.alloc (.cells #[.int .u64 s1, .slice A6 n6 C6] 27)) r5 [.int .u64 s1, .slice A6 n6 C6] 27 := Blk.new' hr5.symm rfl
  have k6' : KIn (W5.alloc (.cells #[.int .u64 s1, .slice A6 n6 C6] 27)) A6 n6 x1 := k6.below ((Below.refl _ _).alloc (Nat.le_refl _) _)
  have b6' : Below W4.heap.size W4 (W5.alloc (.cells #[.int .u64 s1, .slice A6 n6 C6] 27)) := b6.alloc b6.size _
  clear e0 e1 e2 e3 o0 o1 hr5 k6 b6 HD1
  generalize World.alloc W5 _ = W6 at B5 k6' b6' ⊢
  have H6 : Hid (Blk W6 r5 [.int .u64 s1, .slice A6 n6 C6] 27 ∧ KIn W6 A6 n6 x1) := ⟨B5, k6'⟩
  have HBW6 : Hid (Below W4.heap.size W4 W6) := b6'
  clear B5 k6' b6'
  have H14 : Hid (∀ X, Below W4.heap.size W4 X → Below W1.heap.size W1 X) := fun X hX => HL.out.2.2.2.2.2.2.2.1.trans (hX.mono HL.out.2.2.2.2.2.2.2.1.size)
  obtain ⟨⟨e0, e1, e2, e3⟩, o0, o1⟩ := HC.out W6 (H14.out _ HBW6.out)
  have HDB : Hid (Calls Try.prog 6 #[.agg #[.int .i64 s0.z, .int .i64 s0.zb, .int .i64 s0.b, .int .i64 s0.r], .slice ab m (c5 - 1)] W6.drew fun e w' => ∃ S A n C, e = .returned (.tuple #[.agg #[.int .u64 S, .slice A n C], .int .u16 141]) ∧ Below W6.heap.size W6 w') := by
    have hb := HBW6.out
    refine (HD2.out W6.drew ⟨hb.os, hb.tape, hb.output, hb.size, hb.block⟩).mono ?_
    rintro e w' ⟨S, A, n, C, rfl, b⟩
    exact ⟨S, A, n, C, rfl, ⟨b.os, b.tape, b.output, b.size, b.block⟩⟩
  have HDA : Hid (Calls Try.prog 6 #[.agg #[.int .i64 s0.z, .int .i64 s0.zb, .int .i64 s0.b, .int .i64 s0.r], .slice ab m (c5 - 1)] (W6.alloc (.cells #[.int .u64 0, .slice none 0 0] 27)).drew fun e w' => ∃ S A n C, e = .returned (.tuple #[.agg #[.int .u64 S, .slice A n C], .int .u16 141]) ∧ Below (W6.alloc (.cells #[.int .u64 0, .slice none 0 0] 27)).heap.size (W6.alloc (.cells #[.int .u64 0, .slice none 0 0] 27)) w') := by
    have hb := HBW6.out.alloc HBW6.out.size (.cells #[.int .u64 0, .slice none 0 0] 27)
    refine (HD2.out (W6.alloc (.cells #[.int .u64 0, .slice none 0 0] 27)).drew ⟨hb.os, hb.tape, hb.output, hb.size, hb.block⟩).mono ?_
    rintro e w' ⟨S, A, n, C, rfl, b⟩
    exact ⟨S, A, n, C, rfl, ⟨b.os, b.tape, b.output, b.size, b.block⟩⟩
  go_cut [14] (fun g X => g = .int .u16 141 ∧ Below W6.heap.size W6 X)
  case first =>
    have SL := HS.out.1
    have i0 : ∀ o, (W6.alloc o).cell? ⟨q, 0, none⟩ = some (.int .i64 s0.z) := fun o => (((Below.refl W6.heap.size W6).alloc (Nat.le_refl _) o).cell (old_block e0)).trans e0
    have i1 : ∀ o, (W6.alloc o).cell? ⟨q, 1, none⟩ = some (.int .i64 s0.zb) := fun o => (((Below.refl W6.heap.size W6).alloc (Nat.le_refl _) o).cell (old_block e1)).trans e1
    have i2 : ∀ o, (W6.alloc o).cell? ⟨q, 2, none⟩ = some (.int .i64 s0.b) := fun o => (((Below.refl W6.heap.size W6).alloc (Nat.le_refl _) o).cell (old_block e2)).trans e2
    have i3 : ∀ o, (W6.alloc o).cell? ⟨q, 3, none⟩ = some (.int .i64 s0.r) := fun o => (((Below.refl W6.heap.size W6).alloc (Nat.le_refl _) o).cell (old_block e3)).trans e3
    have ng : q ≠ W6.heap.size := by have h1 : q < W6.heap.size := old_block e0; omega
    go_region_held3 (fun X => X.cell? ⟨q, 0, none⟩ = some (.int .i64 s0.z) ∧ X.cell? ⟨q, 1, none⟩ = some (.int .i64 s0.zb) ∧ X.cell? ⟨q, 2, none⟩ = some (.int .i64 s0.b) ∧ X.cell? ⟨q, 3, none⟩ = some (.int .i64 s0.r)) (first | exact ⟨e0, e1, e2, e3⟩ | exact ⟨j0, j1, j2, j3⟩ | exact ⟨i0 _, i1 _, i2 _, i3 _⟩ | exact ⟨l0 _, l1 _, l2 _, l3 _⟩ | exact ⟨kept_set (kept_set j0 ng) ng, kept_set (kept_set j1 ng) ng, kept_set (kept_set j2 ng) ng, kept_set (kept_set j3 ng) ng⟩)
      (first
      | (go_simp; go_at_call 6; refine HDB.out.mono ?_; rintro e w7 ⟨S7, A7, n7, C7, rfl, b7⟩; have j0 := (b7.cell (old_block e0)).trans e0; have j1 := (b7.cell (old_block e1)).trans e1; have j2 := (b7.cell (old_block e2)).trans e2; have j3 := (b7.cell (old_block e3)).trans e3; have l0 := fun o => (((Below.refl w7.heap.size w7).alloc (Nat.le_refl _) o).cell (old_block j0)).trans j0; have l1 := fun o => (((Below.refl w7.heap.size w7).alloc (Nat.le_refl _) o).cell (old_block j1)).trans j1; have l2 := fun o => (((Below.refl w7.heap.size w7).alloc (Nat.le_refl _) o).cell (old_block j2)).trans j2; have l3 := fun o => (((Below.refl w7.heap.size w7).alloc (Nat.le_refl _) o).cell (old_block j3)).trans j3; have H7 : Hid (Below W6.heap.size W6 w7) := b7; clear b7)
      | (go_simp; go_at_call 6; refine HDA.out.mono ?_; rintro e w7 ⟨S7, A7, n7, C7, rfl, b7⟩; have j0 := (b7.cell (old_block (i0 _))).trans (i0 _); have j1 := (b7.cell (old_block (i1 _))).trans (i1 _); have j2 := (b7.cell (old_block (i2 _))).trans (i2 _); have j3 := (b7.cell (old_block (i3 _))).trans (i3 _); have hq7 := (Blk.new' (w := W6) (C := #[.int .u64 0, .slice none 0 0]) (L := [.int .u64 0, .slice none 0 0]) (t := 27) rfl rfl).below b7 (by simp); have q0 := hq7.cell 0; have q1 := hq7.cell 1; have qf := fun i => hq7.frozen i; simp only [List.getElem?_cons_zero, List.getElem?_cons_succ] at q0 q1; have H7 : Hid (Below W6.heap.size W6 w7 ∧ 0 = 0) := ⟨((Below.refl W6.heap.size W6).alloc (Nat.le_refl _) _).trans (b7.mono (by simp)), rfl⟩; clear b7 hq7))
    all_goals go_wp2_with fail
    all_goals go_meet
    all_goals first
      | exact ⟨rfl, H7.out.alloc H7.out.size _⟩
      | exact ⟨rfl, (H7.out.1.setCell (Nat.le_refl _) _).setCell (Nat.le_refl _) _⟩
  case rest =>
  obtain ⟨rfl, b7⟩ := hcut
  obtain ⟨W8, h⟩ : ∃ W8 : World, W8 = wc := ⟨_, rfl⟩
  subst h
  have HBW8 : Hid (Below W4.heap.size W4 W8) := HBW6.out.trans (b7.mono HBW6.out.size)
  have H8 : Hid (Blk W8 r5 [.int .u64 s1, .slice A6 n6 C6] 27 ∧ KIn W8 A6 n6 x1) := ⟨H6.out.1.below b7 H6.out.1.lt, H6.out.2.below b7⟩
  clear b7 e0 e1 e2 e3 o0 o1 HDB HDA
  obtain ⟨⟨e0, e1, e2, e3⟩, o0, o1⟩ := HC.out W8 (H14.out _ HBW8.out)
  go_upto_region 8 with fail
  have HDB : Hid (Calls Try.prog 6 #[.agg #[.int .i64 s0.z, .int .i64 s0.zb, .int .i64 s0.b, .int .i64 s0.r], .slice a5 m c5] W8.drew fun e w' => ∃ S A n C, e = .returned (.tuple #[.agg #[.int .u64 S, .slice A n C], .int .u16 141]) ∧ Below W8.heap.size W8 w') := by
    have hb := HBW8.out
    refine (HD3.out W8.drew ⟨hb.os, hb.tape, hb.output, hb.size, hb.block⟩).mono ?_
    rintro e w' ⟨S, A, n, C, rfl, b⟩
    exact ⟨S, A, n, C, rfl, ⟨b.os, b.tape, b.output, b.size, b.block⟩⟩
  have HDA : Hid (Calls Try.prog 6 #[.agg #[.int .i64 s0.z, .int .i64 s0.zb, .int .i64 s0.b, .int .i64 s0.r], .slice a5 m c5] (W8.alloc (.cells #[.int .u64 0, .slice none 0 0] 27)).drew fun e w' => ∃ S A n C, e = .returned (.tuple #[.agg #[.int .u64 S, .slice A n C], .int .u16 141]) ∧ Below (W8.alloc (.cells #[.int .u64 0, .slice none 0 0] 27)).heap.size (W8.alloc (.cells #[.int .u64 0, .slice none 0 0] 27)) w') := by
    have hb := HBW8.out.alloc HBW8.out.size (.cells #[.int .u64 0, .slice none 0 0] 27)
    refine (HD3.out (W8.alloc (.cells #[.int .u64 0, .slice none 0 0] 27)).drew ⟨hb.os, hb.tape, hb.output, hb.size, hb.block⟩).mono ?_
    rintro e w' ⟨S, A, n, C, rfl, b⟩
    exact ⟨S, A, n, C, rfl, ⟨b.os, b.tape, b.output, b.size, b.block⟩⟩
  go_cut [16] (fun g X => g = .int .u16 141 ∧ Below W8.heap.size W8 X)
  case first =>
    have SL := HS.out.2
    have i0 : ∀ o, (W8.alloc o).cell? ⟨q, 0, none⟩ = some (.int .i64 s0.z) := fun o => (((Below.refl W8.heap.size W8).alloc (Nat.le_refl _) o).cell (old_block e0)).trans e0
    have i1 : ∀ o, (W8.alloc o).cell? ⟨q, 1, none⟩ = some (.int .i64 s0.zb) := fun o => (((Below.refl W8.heap.size W8).alloc (Nat.le_refl _) o).cell (old_block e1)).trans e1
    have i2 : ∀ o, (W8.alloc o).cell? ⟨q, 2, none⟩ = some (.int .i64 s0.b) := fun o => (((Below.refl W8.heap.size W8).alloc (Nat.le_refl _) o).cell (old_block e2)).trans e2
    have i3 : ∀ o, (W8.alloc o).cell? ⟨q, 3, none⟩ = some (.int .i64 s0.r) := fun o => (((Below.refl W8.heap.size W8).alloc (Nat.le_refl _) o).cell (old_block e3)).trans e3
    have ng : q ≠ W8.heap.size := by have h1 : q < W8.heap.size := old_block e0; omega
    go_region_held3 (fun X => X.cell? ⟨q, 0, none⟩ = some (.int .i64 s0.z) ∧ X.cell? ⟨q, 1, none⟩ = some (.int .i64 s0.zb) ∧ X.cell? ⟨q, 2, none⟩ = some (.int .i64 s0.b) ∧ X.cell? ⟨q, 3, none⟩ = some (.int .i64 s0.r)) (first | exact ⟨e0, e1, e2, e3⟩ | exact ⟨j0, j1, j2, j3⟩ | exact ⟨i0 _, i1 _, i2 _, i3 _⟩ | exact ⟨l0 _, l1 _, l2 _, l3 _⟩ | exact ⟨kept_set (kept_set j0 ng) ng, kept_set (kept_set j1 ng) ng, kept_set (kept_set j2 ng) ng, kept_set (kept_set j3 ng) ng⟩)
      (first
      | (go_simp; go_at_call 6; refine HDB.out.mono ?_; rintro e w7 ⟨S7, A7, n7, C7, rfl, b7⟩; have j0 := (b7.cell (old_block e0)).trans e0; have j1 := (b7.cell (old_block e1)).trans e1; have j2 := (b7.cell (old_block e2)).trans e2; have j3 := (b7.cell (old_block e3)).trans e3; have l0 := fun o => (((Below.refl w7.heap.size w7).alloc (Nat.le_refl _) o).cell (old_block j0)).trans j0; have l1 := fun o => (((Below.refl w7.heap.size w7).alloc (Nat.le_refl _) o).cell (old_block j1)).trans j1; have l2 := fun o => (((Below.refl w7.heap.size w7).alloc (Nat.le_refl _) o).cell (old_block j2)).trans j2; have l3 := fun o => (((Below.refl w7.heap.size w7).alloc (Nat.le_refl _) o).cell (old_block j3)).trans j3; have H7 : Hid (Below W8.heap.size W8 w7) := b7; clear b7)
      | (go_simp; go_at_call 6; refine HDA.out.mono ?_; rintro e w7 ⟨S7, A7, n7, C7, rfl, b7⟩; have j0 := (b7.cell (old_block (i0 _))).trans (i0 _); have j1 := (b7.cell (old_block (i1 _))).trans (i1 _); have j2 := (b7.cell (old_block (i2 _))).trans (i2 _); have j3 := (b7.cell (old_block (i3 _))).trans (i3 _); have hq7 := (Blk.new' (w := W8) (C := #[.int .u64 0, .slice none 0 0]) (L := [.int .u64 0, .slice none 0 0]) (t := 27) rfl rfl).below b7 (by simp); have q0 := hq7.cell 0; have q1 := hq7.cell 1; have qf := fun i => hq7.frozen i; simp only [List.getElem?_cons_zero, List.getElem?_cons_succ] at q0 q1; have H7 : Hid (Below W8.heap.size W8 w7 ∧ 0 = 0) := ⟨((Below.refl W8.heap.size W8).alloc (Nat.le_refl _) _).trans (b7.mono (by simp)), rfl⟩; clear b7 hq7))
    all_goals go_wp2_with fail
    all_goals go_meet
    all_goals first
      | exact ⟨rfl, H7.out.alloc H7.out.size _⟩
      | exact ⟨rfl, (H7.out.1.setCell (Nat.le_refl _) _).setCell (Nat.le_refl _) _⟩
  case rest =>
  obtain ⟨rfl, b7⟩ := hcut
  obtain ⟨W9, h⟩ : ∃ W9 : World, W9 = wc := ⟨_, rfl⟩
  subst h
  have HBW9 : Hid (Below W4.heap.size W4 W9) := HBW8.out.trans (b7.mono HBW8.out.size)
  have H9 : Hid (Blk W9 r5 [.int .u64 s1, .slice A6 n6 C6] 27 ∧ KIn W9 A6 n6 x1) := ⟨H8.out.1.below b7 H8.out.1.lt, H8.out.2.below b7⟩
  clear b7 e0 e1 e2 e3 o0 o1 HDB HDA
  obtain ⟨-, o0, o1⟩ := HC.out W9 (H14.out _ HBW9.out)
  have u0 := H9.out.1.cell 0
  have u1 := H9.out.1.cell 1
  simp only [List.getElem?_cons_zero, List.getElem?_cons_succ] at u0 u1
  have HM : Hid (Calls Try.prog 7 #[.agg #[.int .u64 s1, .slice A6 n6 C6], .agg #[.int .u64 s1, .slice A1 n1 C1]] W9 fun e w' => e = .returned (.bool true) ∧ Below W9.heap.size W9 w') := dkSame_of s1 A6 n6 C6 A1 n1 C1 x1 W9 H9.out.2 (((H1.out.1.below HB.out).below (H14.out _ HBW9.out)))
  go_upto_region 11 with (go_at_call 7; refine HM.out.mono ?_; rintro e W10 ⟨rfl, b10⟩)
  have HBW10 : Hid (Below W4.heap.size W4 W10) := HBW9.out.trans (b10.mono HBW9.out.size)
  clear b10 HM o0 o1 u0 u1 H6 H8 H9
  clear hw1 hw2 hw3 hw4 hw5
  obtain ⟨M, hM⟩ : ∃ M, M = if a2 < 0 then (0 : Int) else a2 := ⟨_, rfl⟩
  have hM0 : 0 ≤ M := by rw [hM]; split <;> omega
  obtain ⟨k, hk⟩ : ∃ k : Nat, (k : Int) = M % (nl : Int) := ⟨(M % (nl : Int)).toNat, Int.toNat_of_nonneg (Int.emod_nonneg _ (by omega))⟩
  have hkn : k < nl := by have := Int.emod_lt_of_pos M (show (0 : Int) < (nl : Int) by omega); omega
  obtain ⟨D, hD⟩ : ∃ D, ls[k]? = some D := ⟨ls[k]'(by rw [← HL.out.2.1]; exact hkn), by simp⟩
  have hsz : ∀ D' ∈ ls, D'.length = D.length := by
    have h1 := ckL_size (seq := s1) HL.out.2.2.1
    rw [← HL.out.1] at h1
    intro D' hD'
    have := h1 D' hD'
    have := h1 D (List.mem_of_getElem? hD)
    omega
  have hDl : (D.length : Int) = s0.b := by
    have h1 := ckL_size (seq := s1) HL.out.2.2.1
    rw [← HL.out.1] at h1
    exact h1 D (List.mem_of_getElem? hD)
  have hD64 : 1 ≤ D.length ∧ D.length ≤ 4096 := by
    have h1 := roomN_pos (ckE_zero.1 HL.out.2.2.1).1.1
    have h2 := power_bounds (ckE_zero.1 HL.out.2.2.1).1.1.2.2.2.2.1
    omega
  obtain ⟨L, hL⟩ : ∃ L, L = D.length := ⟨_, rfl⟩
  obtain ⟨i, hi⟩ : ∃ i : Nat, (i : Int) = M / (nl : Int) % (L : Int) := ⟨(M / (nl : Int) % (L : Int)).toNat, Int.toNat_of_nonneg (Int.emod_nonneg _ (by omega))⟩
  have hiL : i < L := by have := Int.emod_lt_of_pos (M / (nl : Int)) (show (0 : Int) < (L : Int) by omega); omega
  have row10 : RowAt (fun j => W3.heap.size ≤ j) W10 (.slice a5 nl c5) ls := HL.out.2.2.2.2.1.out (below_out Non HBW10.out) (fun _ _ => id) (fun _ _ _ _ => id)
  have hoth : ∀ (j : Nat) (D' : List Int), ls[j]? = some D' → j ≠ k → D' ≠ D := by
    intro j D' hj hne
    rw [HL.out.1] at hj hD
    exact ckL_other H1.out.2.2.1 HL.out.2.2.2.1 HL.out.2.2.1 hD hj hne
  obtain ⟨r, g, C10, ha5, c1, -, -, -, -, -⟩ := row_put row10 hD hoth hsz (hL ▸ hiL)
  rw [← hL] at c1
  have HP : Hid ((∀ (j : Nat) (D' : List Int), ls[j]? = some D' → j ≠ k → D' ≠ D) ∧ (∀ D' ∈ ls, D'.length = D.length) ∧ ls[k]? = some D ∧ L = D.length ∧ i < L) := ⟨hoth, hsz, hD, hL, hiL⟩
  subst ha5
  have HV : Hid (M = (if a2 < 0 then (0 : Int) else a2) ∧ (k : Int) = M % (nl : Int) ∧ (i : Int) = M / (nl : Int) % (L : Int) ∧ 0 ≤ M) := ⟨hM, hk, hi, hM0⟩
  have hL1 : (1 : Int) ≤ (L : Int) ∧ (L : Int) ≤ 4096 := by omega
  have hk1 : (k : Int) < (nl : Int) := by omega
  have hi1 : (i : Int) < (L : Int) := by omega
  have HW10 : Hid (W10.cell? ⟨r, k, none⟩ = some (.slice (some ⟨g, 0, none⟩) L C10)) := c1
  clear c1 hoth row10 hsz hDl hD64 hL hM hk hi hD hM0
  go_upto_region 12 with fail
  rw [← HV.out.1, ← HV.out.2.1]
  have cq : ∀ j, (W10.drewN j).cell? ⟨r, k, none⟩ = some (.slice (some ⟨g, 0, none⟩) L C10) := fun j => HW10.out
  have cq0 : W10.cell? ⟨r, k, none⟩ = some (.slice (some ⟨g, 0, none⟩) L C10) := HW10.out
  go_cut [18] (fun v X => v = .int .i64 (i : Int) ∧ ∃ j, X = W10.drewN j)
  case first =>
    go_quiet (fail)
    rw [← HV.out.1, Int.tmod_eq_emod_of_nonneg (Int.ediv_nonneg HV.out.2.2.2 (by omega)), ← HV.out.2.2.1]
    go_wp2_with fail
    go_meet
    exact ⟨rfl, _, rfl⟩
  case rest =>
  obtain ⟨rfl, j, hj⟩ := hcut
  have b11 : Below W10.heap.size W10 wc := by rw [hj]; exact below_drewN _ _
  obtain ⟨W11, h⟩ : ∃ W11 : World, W11 = wc := ⟨_, rfl⟩
  subst h
  have HBW11 : Hid (Below W4.heap.size W4 W11) := HBW10.out.trans (b11.mono HBW10.out.size)
  clear hj b11 cq cq0 HW10
  have row11 : RowAt (fun j => W3.heap.size ≤ j) W11 (.slice (some ⟨r, 0, none⟩) nl c5) ls := HL.out.2.2.2.2.1.out (below_out Non HBW11.out) (fun _ _ => id) (fun _ _ _ _ => id)
  obtain ⟨r', g', C11, ha5, c1, c2, fz, hg, _, hput⟩ := row_put row11 HP.out.2.2.1 HP.out.1 HP.out.2.1 (HP.out.2.2.2.1 ▸ HP.out.2.2.2.2)
  cases ha5
  rw [← HP.out.2.2.2.1] at c1
  obtain ⟨y, hy⟩ : ∃ y, y = D[i]'(HP.out.2.2.2.1 ▸ HP.out.2.2.2.2) := ⟨_, rfl⟩
  rw [← hy] at c2
  have hds := dec_set (s := s0) H1.out.2.2.1 HL.out.2.2.2.1 HL.out.2.2.1 (by rw [← HL.out.1]; exact HP.out.2.2.1) (HP.out.2.2.2.1 ▸ HP.out.2.2.2.2) H1.out.2.2.2.2
  rw [← HL.out.1, ← hy] at hds
  have hput3 := hput a3 H1.out.2.2.2.2
  have hsh : Short (ls.set k (D.set i a3)) := fun E hE => by
    rcases List.mem_or_eq_of_mem_set hE with h | rfl
    · exact HL.out.2.2.2.2.2.1 E h
    · rw [List.length_set]; have := HP.out.2.2.2.1; omega
  have bs12 := hput3.bsin hsh
  have b3w : w.heap.size ≤ W3.heap.size := Nat.le_trans HB.out.size H3.out.size
  have bw11 : Below w.heap.size w W11 := HL.out.2.2.2.2.2.2.2.2.trans (HBW11.out.mono HL.out.2.2.2.2.2.2.2.2.size)
  obtain ⟨⟨e0, e1, e2, e3⟩, -, -⟩ := HC.out W11 (H14.out _ HBW11.out)
  have hqg : q ≠ g' := by
    have h1 : q < W1.heap.size := old_block (HC.out W1 (Below.refl _ _)).1.1
    have h2 := H3.out.size
    omega
  have d0 : (W11.setCell ⟨g', i, none⟩ (.int .u8 a3)).cell? ⟨q, 0, none⟩ = some (.int .i64 s0.z) := kept_set e0 hqg
  have d1 : (W11.setCell ⟨g', i, none⟩ (.int .u8 a3)).cell? ⟨q, 1, none⟩ = some (.int .i64 s0.zb) := kept_set e1 hqg
  have d2 : (W11.setCell ⟨g', i, none⟩ (.int .u8 a3)).cell? ⟨q, 2, none⟩ = some (.int .i64 s0.b) := kept_set e2 hqg
  have d3 : (W11.setCell ⟨g', i, none⟩ (.int .u8 a3)).cell? ⟨q, 3, none⟩ = some (.int .i64 s0.r) := kept_set e3 hqg
  have HX : Hid (Below w.heap.size w (W11.setCell ⟨g', i, none⟩ (.int .u8 a3))) := bw11.setCell (Nat.le_trans b3w hg) _
  clear hsh b3w bw11 hput hput3 hg e0 e1 e2 e3 hqg row11
  by_cases hs : y = a3
  · have hE := hds.1 hs
    have HD5 : Hid (Calls Try.prog 6 #[.agg #[.int .i64 s0.z, .int .i64 s0.zb, .int .i64 s0.b, .int .i64 s0.r], .slice (some ⟨r, 0, none⟩) nl c5] (W11.setCell ⟨g', i, none⟩ (.int .u8 a3)) fun e w' => ∃ S A n C, e = .returned (.tuple #[.agg #[.int .u64 S, .slice A n C], .int .u16 0]) ∧ Below (W11.setCell ⟨g', i, none⟩ (.int .u8 a3)).heap.size (W11.setCell ⟨g', i, none⟩ (.int .u8 a3)) w') := (kdecode_of s0 (some ⟨r, 0, none⟩) nl c5 (ls.set k (D.set i a3)) _ H1.out.2.2.2.1 bs12).mono (by rintro e w' ⟨A, n, C, rfl, h1, h2, h3⟩; exact ⟨_, A, n, C, by rw [hE], h3⟩)
    have hyy : (y == a3) = true := by simp [hs]
    clear hds bs12 hE hs hy HP HV
    go_wp2_with (go_at_call 6; refine HD5.out.mono ?_; rintro e W13 ⟨S9, A9, n9, C9, rfl, b9⟩)
    go_ret
    exact ⟨rfl, (HX.out.trans (b9.mono HX.out.size)).alloc (Nat.le_trans HX.out.size b9.size) _⟩
  · have hE := hds.2 hs
    have HD5 : Hid (Calls Try.prog 6 #[.agg #[.int .i64 s0.z, .int .i64 s0.zb, .int .i64 s0.b, .int .i64 s0.r], .slice (some ⟨r, 0, none⟩) nl c5] (W11.setCell ⟨g', i, none⟩ (.int .u8 a3)) fun e w' => ∃ S A n C, e = .returned (.tuple #[.agg #[.int .u64 S, .slice A n C], .int .u16 141]) ∧ Below (W11.setCell ⟨g', i, none⟩ (.int .u8 a3)).heap.size (W11.setCell ⟨g', i, none⟩ (.int .u8 a3)) w') := (kdecode_of s0 (some ⟨r, 0, none⟩) nl c5 (ls.set k (D.set i a3)) _ H1.out.2.2.2.1 bs12).mono (by rintro e w' ⟨A, n, C, rfl, h1, h2, h3⟩; exact ⟨_, A, n, C, by rw [hE], h3⟩)
    have hyy : (y == a3) = false := by simp [hs]
    clear hds bs12 hE hy HP HV
    go_wp2_with (go_at_call 6; refine HD5.out.mono ?_; rintro e W13 ⟨S9, A9, n9, C9, rfl, b9⟩)
    go_ret
    exact ⟨rfl, (HX.out.trans (b9.mono HX.out.size)).alloc (Nat.le_trans HX.out.size b9.size) _⟩

set_option maxRecDepth 100000 in
theorem lifted (os : Os) (started : os.Started) (H : Type) (enc : TypeId × Value → H) :
    ReturnsInHanded {} Try.checked os 3 .any (Rows.ckptBackSpec.pre6 enc Try.prog Try.f3 Rows.ckptBackRow.domain false) (Rows.ckptBackSpec.post enc Try.prog Try.f3 false true false false) := by
  refine returnsInHanded_of_change (C := Try.checked) own started (by kernel_rfl) Try.func3
    (ChangeSpec.witness6 (enc := enc) (C := Try.checked) false ⟨#[], #[.agg #[.int .i64 0, .int .i64 0, .int .i64 0, .int .i64 0], .agg #[.int .u64 0, .slice none 0 0], .int .i64 0, .int .u8 0], []⟩ 8 (by kernel_rfl) (by kernel_rfl) (by kernel_rfl) (by kernel_rfl)) ?_
  intro W base args ds gs before hval0 hW hcnd _
  have hval : ∀ (j : Nat) t v, Try.f3.params[j]? = some t → args[j]? = some v → Value.okWide Try.prog W .any base t v := hval0
  have hW' := hW
  obtain ⟨p, q, hA0, hV, rfl, hfz, hnd⟩ := hW
  have hA : DataW.TrodAll enc Try.prog W 0 (fun _ => true) true Try.f3.params.toList args.toList ds p := hA0
  rw [Try.params3] at hA hval
  obtain ⟨v0, vs0, d0, ds0, p0, q0, hargs, rfl, rfl, h0, r0⟩ := trodAll_cons hA
  obtain ⟨v1, vs1, d1, ds1, p1, q1, rfl, rfl, rfl, h1, r1⟩ := trodAll_cons r0
  obtain ⟨v2, vs2, d2, ds2, p2, q2, rfl, rfl, rfl, h2, r2⟩ := trodAll_cons r1
  obtain ⟨v3, vs3, d3, ds3, p3, q3, rfl, rfl, rfl, h3, r3⟩ := trodAll_cons r2
  obtain ⟨rfl, rfl, rfl⟩ := trodAll_nil r3
  obtain rfl : args = #[v0, v1, v2, v3] := by cases args; simp_all
  obtain ⟨rfl, rfl⟩ := trodVars_none hV
  have k0 := h0
  have lt0 : ∀ x ∈ p0, x.block < W.heap.size := by obtain ⟨m, hm⟩ := k0; exact DataW.trod_lt m _ _ _ hm
  obtain ⟨s0, rfl, w0⟩ := open_shape (hval 0 23 v0 rfl rfl) h0
  have k1 := h1
  have lt1 : ∀ x ∈ p1, x.block < W.heap.size := by obtain ⟨m, hm⟩ := k1; exact DataW.trod_lt m _ _ _ hm
  obtain ⟨s1, A1, n1, C1, x1, rfl, w1⟩ := open_state (hval 1 27 v1 rfl rfl) h1
  obtain ⟨a2, rfl, rfl, rfl, w2⟩ := open_int Try.underlying3 (hval 2 3 v2 rfl rfl) h2
  obtain ⟨a3, rfl, rfl, rfl, w3⟩ := open_int Try.underlying5 (hval 3 5 v3 rfl rfl) h3
  clear hA0 hval0
  refine (walk s0 s1 A1 n1 C1 x1 a2 a3 W w0 w1 w2 w3).mono fun e W' ⟨he, bel⟩ => ?_
  subst he
  exact ⟨_, rfl, _, _, _, [], _, [], hW', trodAll_mk1 (shut_bool Try.underlying4 _), (trodAll_cons_mk (Below.trod laidOut (by kernel_rfl) (of_decide_eq_true (by kernel_rfl)) k0 bel lt0) (trodAll_cons_mk (Below.trod laidOut (by kernel_rfl) (of_decide_eq_true (by kernel_rfl)) k1 bel lt1) (trodAll_cons_mk (shut_int Try.underlying3 w2) (trodAll_cons_mk (shut_int Try.underlying5 w3) trodAll_mk0)))), rfl, bel.frame _, fun h => by cases h⟩

theorem over : Rows.ckptBackRow.holds Try.pinned (OpenSpec.ofChange Rows.ckptBackSpec) :=
  OpenClaim.holds_of_wide 3 Try.f3 rfl rfl rfl rfl rfl rfl rfl ⟨rfl, rfl, rfl, rfl, rfl⟩ rfl rfl rfl rfl rfl (by kernel_rfl) Try.func3 (by kernel_rfl)
    (of_decide_eq_true (by kernel_rfl)) (by unfold Func.isWrapper; first | (rw [if_pos (by decide +kernel)]; kernel_rfl) | (rw [if_neg (by decide +kernel)]; exact ⟨rfl, rfl⟩))
    (fun os started H enc _ => lifted os started H enc)

end Go.Proofs.Ytidhocamnalbmaa.ckptBack
namespace Go.Proofs.Ytidhocamnalbmaa
/-- The statement. -/
theorem ckptBack_holds : Rows.CkptBackSaid := ckptBack.over
#print axioms ckptBack_holds
end Go.Proofs.Ytidhocamnalbmaa
