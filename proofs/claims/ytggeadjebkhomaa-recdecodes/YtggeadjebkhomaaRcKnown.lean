/- What one call of the statements' known does. -/
import Derived.Test.YtggeadjebkhomaaRcCode
import Derived.BigQuiet
namespace Go.Proofs.Ytggeadjebkhomaa
open Go.RowKit
set_option linter.unusedVariables false
set_option maxRecDepth 4000

theorem isR_zeros : ¬ IsR (List.replicate 64 0) := by
  intro h
  have := h.first
  simp at this
def itK : It := ⟨1, 2, 2, 0, 0⟩
theorem itK_fits : itK.Fits := ⟨⟨by decide, by decide⟩, ⟨by decide, by decide⟩, ⟨by decide, by decide⟩, ⟨by decide, by decide⟩, ⟨by decide, by decide⟩⟩
theorem good_known : GoodR [itK] 64 := by decide
theorem zeros_fit (n : Nat) : ∀ z ∈ List.replicate n (0 : Int), Fits8 z := by
  intro z hz
  rw [(List.mem_replicate.1 hz).2]
  unfold Fits8; omega
theorem zeros_bin {w : World} {n : Nat} {g : Nat} (h : Blk w g (u8s (List.replicate n 0)) 5) (hn : n ≤ 100000) : BIn w (some ⟨g, 0, none⟩) n (List.replicate n 0) := by
  refine ⟨by simp, by unfold maxLen; omega, zeros_fit n, .inr ⟨g, 0, rfl, fun i hi => ?_⟩⟩
  rw [Nat.zero_add, h.cell]
  simp [u8s, List.getD, hi]
theorem known_its {w : World} {g : Nat} (hg : w.heap.size = g) : ItsIn (w.alloc (.cells #[.int .u32 1, .int .u64 2, .int .u8 2, .int .u32 0, .int .u16 0] 47)) (some ⟨g, 0, none⟩) 1 [itK] := by
  have hb : Blk (w.alloc (.cells #[.int .u32 1, .int .u64 2, .int .u8 2, .int .u32 0, .int .u16 0] 47)) g (itL itK) 47 := Blk.new' hg rfl
  refine ⟨rfl, by unfold maxLen; omega, by intro x hx; simp at hx; subst hx; exact itK_fits, .inr ⟨g, 0, rfl, fun i x hx j v hv => ?_⟩⟩
  match i, hx with
  | 0, hx =>
    simp at hx
    subst hx
    rw [Nat.zero_mul, Nat.zero_add, hb.cell]
    exact hv
theorem room_64 : roomI 64 = 2 := by decide
theorem room_4096 : roomI 4096 = 214 := by decide
theorem room_100 : roomI 100 = 0 := by decide
set_option maxHeartbeats 2000000 in
theorem cknown_any (w : World) : Calls Try.prog 11 #[] w fun e w' => e = .returned (.bool true) ∧ Below w.heap.size w w' := by
  have hmk := run_make_row' (P := Try.prog) 26 5 (.int .u8 0) 1 Try.underlying26 Try.zero_u8 rfl .i64 .i64 64 (by decide) (by decide)
  have e64 : ((64 : Nat) : Int) = 64 := rfl
  simp only [e64] at hmk
  clear e64
  have b0 := cmade_bytes 64 w
  have bw : Below w.heap.size w (w.alloc (.cells (madeCells #[.int .u8 0] 64) 5)) := (Below.refl _ _).alloc (Nat.le_refl _) _
  have hE : decE (List.replicate 64 0) = 111 := by unfold decE; rw [if_neg isR_zeros]
  go_enter Try.func11, Try.ntmps11
  go_wp2_with fail
  generalize hW : World.alloc w _ = W at b0 bw ⊢
  have H : Hid (Blk W w.heap.size (u8s (List.replicate 64 0)) 5 ∧ Below w.heap.size w W) := ⟨b0, bw⟩
  clear b0 bw hW hmk
  refine (decode_of (some ⟨w.heap.size, 0, none⟩) 64 64 (List.replicate 64 0) W (zeros_bin H.out.1 (by omega)) (fun h => by cases h) (by omega) (by omega)).mono ?_
  rintro e W2 ⟨A, n, C, rfl, it2, b2⟩
  rw [hE]
  obtain ⟨S, hS⟩ : ∃ S, S = decS (List.replicate 64 0) := ⟨_, rfl⟩
  rw [← hS]
  clear hS it2
  have bw2 := H.out.2.trans (b2.mono H.out.2.size)
  go_upto_region 2 with fail
  have bw3 := bw2.alloc bw2.size (.cells #[.int .u64 S, .slice A n C] 25)
  generalize hW3 : World.alloc W2 _ = W3 at bw3 ⊢
  have i4 := known_its (w := W3) rfl
  have bw4 := bw3.alloc bw3.size (.cells #[.int .u32 1, .int .u64 2, .int .u8 2, .int .u32 0, .int .u16 0] 47)
  have HB : Hid (Below w.heap.size w (W3.alloc (.cells #[.int .u32 1, .int .u64 2, .int .u8 2, .int .u32 0, .int .u16 0] 47))) := bw4
  have HI : Hid (ItsIn (W3.alloc (.cells #[.int .u32 1, .int .u64 2, .int .u8 2, .int .u32 0, .int .u16 0] 47)) (some ⟨W3.heap.size, 0, none⟩) 1 [itK]) := i4
  clear bw2 bw3 bw4 b2 hW3 hE i4 H
  go_wp2_with fail
  refine (encode_of 7 (some ⟨W3.heap.size, 0, none⟩) 1 1 [itK] 64 _ (by unfold FitsU; omega) HI.out).mono ?_
  rintro e W5 ⟨A5, n5, C5, rfl, ow5, b5, _⟩
  have hen : encE [itK] 64 = 0 := by unfold encE; rw [if_pos good_known]
  have hn5 : n5 = 64 := by
    have := ow5.1
    unfold encB at this
    rw [if_pos good_known, u8s_length, enc_length (by decide)] at this
    simpa using this.symm
  rw [hen]
  subst hn5
  have HB5 : Hid (Below w.heap.size w W5) := HB.out.trans (b5.mono HB.out.size)
  clear ow5 b5 hen
  go_wp2_with (go_at_call 13; refine (room_of _ _).mono ?_; rintro e W6 ⟨rfl, hw6⟩; replace hw6 := hw6.symm; subst hw6; (first | rw [room_64] | rw [room_4096] | rw [room_100]))
  go_ret
  exact ⟨rfl, HB5.out⟩
end Go.Proofs.Ytggeadjebkhomaa
