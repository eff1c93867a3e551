/- What one call of known does: the chapter's examples. -/
import Derived.Test.YteokhkoaieibmaaCkLoad
namespace Go.Proofs.Yteokhkoaieibmaa
open Go.RowKit Go.Shelf
set_option linter.unusedVariables false
set_option maxRecDepth 4000

def s0 : Sh := ⟨6, 8, 64, 2⟩
theorem s0_right : RightS s0 := by decide
theorem good_nil {s : Sh} (h : RightS s) : GoodK s [] := ⟨h, fun i p q hp => by simp at hp, by simp⟩
theorem mK_nil {s : Sh} (h : RightS s) : mK s [] = 1 := by
  have := roomN_pos h
  unfold mK
  exact manyN_end (k := 0) (by omega) (by simp) (.inl rfl)
theorem ck_nil : ckE s0 [] = 0 := ckE_zero.2 ⟨good_nil s0_right, by rw [mK_nil s0_right]; decide⟩
theorem putZ_len (zs : List Zn) (i : Nat) (ls : List (List Int)) : (putZ zs i ls).length = zs.length := by simp [putZ, flushZ]
theorem putZ_at {zs : List Zn} {i : Nat} {ls : List (List Int)} (h : i < zs.length) : (putZ zs i ls)[i]? = some (ls, (ls.length : Int)) := by
  simp [putZ, flushZ, fl, h]
theorem putZ_other {zs : List Zn} {i j : Nat} {ls : List (List Int)} {z : Zn} (h : i ≠ j) (hz : zs[j]? = some z) : (putZ zs i ls)[j]? = some (z.1, (z.1.length : Int)) := by
  simp [putZ, flushZ, fl, h, hz]
theorem wf_putZ {s : Sh} {zs : List Zn} (h : Wf s zs) (i : Nat) {seq : Int} {ps : List Pl} (hE : ckE s ps = 0) : Wf s (putZ zs i (ckL s seq ps)) := by
  have := wf_put h i (ckL s seq ps).length (ckL_size (seq := seq) hE) (by rw [ckL_length]; exact (ckE_zero.1 hE).2)
  rw [List.take_of_length_le (Nat.le_refl _)] at this
  exact this.flush
theorem svZ_ok {s : Sh} {zs : List Zn} {i : Nat} {seq : Int} {ps : List Pl} (hi : i < 2) (hE : ckE s ps = 0) : svE s i ps = 0 ∧ svZ s zs i seq ps = putZ zs i (ckL s seq ps) := by
  have h1 : svE s i ps = 0 := by unfold svE; rw [if_pos (by omega), hE]
  refine ⟨h1, ?_⟩
  unfold svZ
  rw [if_pos h1, Int.toNat_natCast]
/-- Zone i has the greater one (or the only one): it is told. -/
theorem best_i {s : Sh} {zs : List Zn} {z0 z1 : Zn} (h0 : zs[0]? = some z0) (h1 : zs[1]? = some z1) :
    (IsK s z0.1 → ¬ (IsK s z1.1 ∧ allSeq z0.1 < allSeq z1.1) → bestK s zs 2 = (allSeq z0.1, allPs z0.1, 0, 0)) ∧ (IsK s z1.1 → (IsK s z0.1 → allSeq z0.1 < allSeq z1.1) → bestK s zs 2 = (allSeq z1.1, allPs z1.1, 1, 0)) := by
  have b0 : bestK s zs 0 = (0, [], 0, 142) := rfl
  refine ⟨fun k0 hn => ?_, fun k1 hs => ?_⟩
  · have e1 : bestK s zs 1 = (allSeq z0.1, allPs z0.1, 0, 0) := best_yes (j := 0) h0 k0 (.inl (by rw [b0]; decide))
    rw [best_no (j := 1) h1 (by rw [e1]; intro h; exact hn ⟨h.1, by simpa using h.2⟩), e1]
  · by_cases k0 : IsK s z0.1
    · have e1 : bestK s zs 1 = (allSeq z0.1, allPs z0.1, 0, 0) := best_yes (j := 0) h0 k0 (.inl (by rw [b0]; decide))
      exact best_yes (j := 1) h1 k1 (.inr (by rw [e1]; exact hs k0))
    · have e1 : bestK s zs 1 = (0, [], 0, 142) := by rw [best_no (j := 0) h0 (fun h => k0 h.1), b0]
      exact best_yes (j := 1) h1 k1 (.inl (by rw [e1]; decide))
def zk1 : List Zn := putZ (emptyZ 6) 0 (ckL s0 5 [])
def zk2 : List Zn := putZ zk1 1 (ckL s0 6 [])
theorem zk1_wf : Wf s0 zk1 := wf_putZ (empty_wf s0_right) 0 ck_nil
theorem zk2_wf : Wf s0 zk2 := wf_putZ zk1_wf 1 ck_nil
theorem best_k : bestK s0 zk2 2 = (6, [], 1, 0) := by
  have l1 : zk1.length = 6 := by simp [zk1, putZ_len, emptyZ]
  have e0 : zk1[0]? = some (ckL s0 5 [], ((ckL s0 5 []).length : Int)) := putZ_at (by simp [emptyZ])
  have e1 : zk2[0]? = some (ckL s0 5 [], ((ckL s0 5 []).length : Int)) := putZ_other (by decide) e0
  have e2 : zk2[1]? = some (ckL s0 6 [], ((ckL s0 6 []).length : Int)) := putZ_at (by rw [l1]; decide)
  have k5 := isK_enc (s := s0) (seq := 5) (ps := []) (by unfold FitsU; omega) (by simp) ck_nil
  have k6 := isK_enc (s := s0) (seq := 6) (ps := []) (by unfold FitsU; omega) (by simp) ck_nil
  have := (best_i e1 e2).2 k6.1 (fun _ => by rw [k5.2.1, k6.2.1]; decide)
  rw [this, k6.2.1, k6.2.2]
theorem sv1 : svE s0 0 [] = 0 ∧ svZ s0 (emptyZ 6) 0 5 [] = zk1 := svZ_ok (i := 0) (by decide) ck_nil
theorem sv2 : svE s0 1 [] = 0 ∧ svZ s0 zk1 1 6 [] = zk2 := svZ_ok (i := 1) (by decide) ck_nil
theorem room64 : roomK 64 = 2 := by decide
set_option maxHeartbeats 4000000 in
theorem kknown_any (W : World) : Calls Try.prog 11 #[] W fun e w' => e = .returned (.bool true) ∧ Below W.heap.size W w' := by
  obtain ⟨q, hq⟩ : ∃ q, q = W.heap.size := ⟨_, rfl⟩
  have hb : Blk (W.alloc (.cells #[.int .i64 6, .int .i64 8, .int .i64 64, .int .i64 2] 23)) q (shL s0) 23 := Blk.new' hq.symm rfl
  have hbel : Below W.heap.size W (W.alloc (.cells #[.int .i64 6, .int .i64 8, .int .i64 64, .int .i64 2] 23)) := (Below.refl _ _).alloc (Nat.le_refl _) _
  go_enter Try.func11, Try.ntmps11
  go_upto_region 2 with fail
  rw [← hq]
  generalize hW1 : World.alloc _ _ = W1 at *
  have e0 : W1.cell? ⟨q, 0, none⟩ = some (.int .i64 6) := hb.cell 0
  have e1 : W1.cell? ⟨q, 1, none⟩ = some (.int .i64 8) := hb.cell 1
  have e2 : W1.cell? ⟨q, 2, none⟩ = some (.int .i64 64) := hb.cell 2
  have e3 : W1.cell? ⟨q, 3, none⟩ = some (.int .i64 2) := hb.cell 3
  have HB : Hid (Below W.heap.size W W1 ∧ Blk W1 q (shL s0) 23) := ⟨hbel, hb⟩
  clear hW1 hb hbel hq
  go_wp2_with fail
  refine (show Calls Try.prog 9 #[.agg #[.int .i64 6, .int .i64 8, .int .i64 64, .int .i64 2], .agg #[.int .u64 5, .slice none 0 0]] W1 (EncGot W1 s0 5 []) from kencode_of s0 5 none 0 0 [] W1 (by decide) (by unfold FitsU; omega) (kin_none _) (Nat.le_refl _)).mono ?_
  rintro e W2 ⟨v, rfl, r2, b2⟩
  rw [ck_nil]
  have hO : ckO s0 5 [] = ckL s0 5 [] := by unfold ckO; rw [if_pos ck_nil]
  have hL1 : (ckL s0 5 []).length = 1 := by rw [ckL_length, mK_nil s0_right]
  obtain ⟨av, cv, hv⟩ := r2.slice
  rw [hO, hL1] at hv
  subst hv
  have H2 : Hid (Below W.heap.size W W2 ∧ Blk W2 q (shL s0) 23) := ⟨HB.out.1.trans (b2.mono HB.out.1.size), HB.out.2.below b2 HB.out.2.lt⟩
  have f0 : W2.cell? ⟨q, 0, none⟩ = some (.int .i64 6) := H2.out.2.cell 0
  have f1 : W2.cell? ⟨q, 1, none⟩ = some (.int .i64 8) := H2.out.2.cell 1
  have f2 : W2.cell? ⟨q, 2, none⟩ = some (.int .i64 64) := H2.out.2.cell 2
  have f3 : W2.cell? ⟨q, 3, none⟩ = some (.int .i64 2) := H2.out.2.cell 3
  clear r2 b2 hO hL1 e0 e1 e2 e3
  go_wp2_with fail
  refine (show Calls Try.prog 29 #[.agg #[.int .i64 6, .int .i64 8, .int .i64 64, .int .i64 2]] W2 (Newed 104 W2 s0) from new_of s0 W2 (by decide)).mono ?_
  rintro e W3 ⟨b3, (⟨hno, _⟩ | ⟨_, p, rfl, hd3⟩)⟩
  · exact (hno s0_right).elim
  have H3 : Hid (Below W.heap.size W W3 ∧ Dv 104 (fun x => W2.heap.size ≤ x) W3 p s0 (emptyZ 6) ∧ Below W2.heap.size W2 W3) := ⟨H2.out.1.trans (b3.mono H2.out.1.size), hd3, b3⟩
  clear b3 hd3 f0 f1 f2 f3
  go_wp2_with fail
  refine (ksave_of 0 5 none 0 0 [] H3.out.2.1 (empty_wf s0_right) (by unfold FitsU; omega) (kin_none _) (Nat.le_refl _)).mono ?_
  rintro e W4 ⟨rfl, O4, hd4, hO4, ho4⟩
  rw [sv1.1]
  rw [sv1.2] at hd4
  have hs2 := H2.out.1.size
  have H4 : Hid (Below W.heap.size W W4 ∧ Dv 104 O4 W4 p s0 zk1 ∧ (∀ x, O4 x → W.heap.size ≤ x)) := by
    have h1 := H3.out.1.size
    refine ⟨H3.out.1.trans (ho4.below h1 (fun x hx => by omega)), hd4, fun x hx => ?_⟩
    rcases hO4 x hx with h | h <;> omega
  clear hd4 hO4 ho4 hs2
  go_wp2_with fail
  refine (ksave_of 1 6 none 0 0 [] H4.out.2.1 zk1_wf (by unfold FitsU; omega) (kin_none _) (Nat.le_refl _)).mono ?_
  rintro e W5 ⟨rfl, O5, hd5, hO5, ho5⟩
  rw [sv2.1]
  rw [sv2.2] at hd5
  have H5 : Hid (Below W.heap.size W W5 ∧ Dv 104 O5 W5 p s0 zk2) := ⟨H4.out.1.trans (ho5.below H4.out.1.size (fun x hx => H4.out.2.2 x hx)), hd5⟩
  clear hd5 hO5 ho5
  go_wp2_with fail
  refine (kload_of H5.out.2 zk2_wf).mono ?_
  rintro e W6 ⟨A6, n6, C6, rfl, _, _, b6⟩
  rw [best_k]
  dsimp only
  have H6 : Hid (Below W.heap.size W W6) := H5.out.1.trans (b6.mono H5.out.1.size)
  clear b6
  obtain ⟨q7, hq7⟩ : ∃ q7, q7 = W6.heap.size := ⟨_, rfl⟩
  have hb7 : Blk (W6.alloc (.cells #[.int .u64 6, .slice A6 n6 C6] 27)) q7 [.int .u64 6, .slice A6 n6 C6] 27 := Blk.new' hq7.symm rfl
  have H7 : Hid (Below W.heap.size W (W6.alloc (.cells #[.int .u64 6, .slice A6 n6 C6] 27))) := H6.out.alloc H6.out.size _
  go_upto_region 9 with fail
  rw [← hq7]
  clear hq7
  generalize hW7 : World.alloc W6 _ = W7 at hb7 H7 ⊢
  have c0 : W7.cell? ⟨q7, 0, none⟩ = some (.int .u64 6) := hb7.cell 0
  clear hb7 hW7
  have hRm : ∀ X : World, Calls Try.prog 13 #[.int .i64 64] X fun e w' => e = .returned (.int .i64 2) ∧ w' = X := fun X => by have := kroom_of 64 X; rw [room64] at this; exact this
  go_wp2_with (go_at_call 13; refine (hRm _).mono ?_; rintro e w' ⟨rfl, hw'⟩; replace hw' := hw'.symm; subst hw')
  go_ret
  exact ⟨rfl, H7.out⟩
end Go.Proofs.Yteokhkoaieibmaa
