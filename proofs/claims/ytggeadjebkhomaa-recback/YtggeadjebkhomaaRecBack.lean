/- RecBack holds: a record that is written is read; a block of which one byte is another one is none; for records of up to 300 items, beyond which the statement says nothing. -/
import Derived.Test.YtggeadjebkhomaaRows
import Derived.Test.YtggeadjebkhomaaRcMore
import Derived.WalkKit
import Derived.ProofKit
import Derived.OpenShut
import Derived.ShutString
import Derived.ChangeOld
import Derived.Below
namespace Go.Proofs.Ytggeadjebkhomaa.recBack
open Go.ChangeShapes Go.WideShapes Go.ChangeAt Go.RowKit
open Go.ChangeMaps (open_string shut_string)
set_option linter.unusedVariables false

theorem own : ownKnob Try.prog.godebug = none := by kernel_rfl
theorem laidOut : laidOutB Try.prog = true := by kernel_rfl

set_option maxHeartbeats 4000000 in
theorem walk (s0 : Int) (A0 : Option Addr) (n0 C0 : Nat) (x0 : List It) (a1 : Int) (a2 : Int) (a3 : Int) (w : World) (w0 : FitsU s0 ∧ ItsIn w A0 n0 x0 ∧ n0 ≤ C0 ∧ (A0 = none → n0 = 0 ∧ C0 = 0)) (w1 : (Lit.int .u8 a1).wf = true) (w2 : (Lit.int .i64 a2).wf = true) (w3 : (Lit.int .u8 a3).wf = true) :
    Calls Try.prog 5 #[.agg #[.int .u64 s0, .slice A0 n0 C0], .int .u8 a1, .int .i64 a2, .int .u8 a3] w fun e w' => e = .returned (.bool true) ∧ Below w.heap.size w w' := by
  have hP := bounds_u8 w1
  obtain ⟨p, hp⟩ : ∃ p : Nat, a1 % 7 = p := ⟨(a1 % 7).toNat, by omega⟩
  have hp7 : p < 7 := by omega
  have htm : Int.tmod a1 7 = (p : Int) := by rw [Int.tmod_eq_emod_of_nonneg (by omega)]; exact hp
  obtain ⟨N, hN⟩ : ∃ N, N = 64 * 2 ^ p := ⟨_, rfl⟩
  have hsh : wrap64 (64 * 2 ^ p) = (N : Int) := by rw [hN]; exact shl_pow ⟨p, hp7⟩
  have hmem : (N : Int) ∈ PowR := by rw [hN]; exact shl_mem ⟨p, hp7⟩
  have hNb := pow_bounds hmem
  obtain ⟨M, hM⟩ : ∃ M : Nat, (if a2 < 0 then 0 else a2) = (M : Int) := ⟨(if a2 < 0 then 0 else a2).toNat, by split <;> omega⟩
  obtain ⟨t, ht⟩ : ∃ t, t = M % N := ⟨_, rfl⟩
  have htN : t < N := by rw [ht]; exact Nat.mod_lt _ (by omega)
  have htt : Int.tmod (M : Int) (N : Int) = (t : Int) := by rw [ht, Int.tmod_eq_emod_of_nonneg (by omega)]; omega
  have hC := fits8 w3
  obtain ⟨q, hq⟩ : ∃ q, q = w.heap.size := ⟨_, rfl⟩
  have kb : Blk (w.alloc (.cells #[.int .u64 s0, .slice A0 n0 C0] 25)) q [.int .u64 s0, .slice A0 n0 C0] 25 := Blk.new' hq.symm rfl
  have bw : Below w.heap.size w (w.alloc (.cells #[.int .u64 s0, .slice A0 n0 C0] 25)) := (Below.refl _ _).alloc (Nat.le_refl _) _
  have H : Hid (FitsU s0 ∧ ItsIn w A0 n0 x0 ∧ Fits8 a3 ∧ t < N ∧ 64 ≤ N ∧ N ≤ 4096) := ⟨w0.1, w0.2.1, hC, htN, by omega, by omega⟩
  clear w0 w1 w2 w3 hP hp hN hmem hNb ht htN hC
  go_enter Try.func5, Try.ntmps5
  go_upto_region 2 with fail
  rw [← hq, hsh]
  generalize hW : World.alloc w _ = W at kb bw ⊢
  have HW : Hid (Blk W q [.int .u64 s0, .slice A0 n0 C0] 25 ∧ Below w.heap.size w W) := ⟨kb, bw⟩
  have c1 : W.cell? ⟨q, 1, none⟩ = some (.slice A0 n0 C0) := kb.cell 1
  clear kb bw hW hsh htm hq
  by_cases hl : 300 < n0
  · have hl' : (300 : Int) < n0 := by omega
    go_wp2_with (go_at_call 11; refine (cknown_any _).mono ?_; rintro e W1 ⟨rfl, b1⟩)
    go_ret
    exact ⟨rfl, HW.out.2.trans (b1.mono HW.out.2.size)⟩
  · have hl' : (n0 : Int) ≤ 300 := by omega
    clear hl
    go_upto_region 4 with (go_at_call 11; refine (cknown_any _).mono ?_; rintro e W1 ⟨rfl, b1⟩)
    have kb1 := HW.out.1.below b1 HW.out.1.lt
    have H1 : Hid (Blk W1 q [.int .u64 s0, .slice A0 n0 C0] 25 ∧ Below w.heap.size w W1) := ⟨kb1, HW.out.2.trans (b1.mono HW.out.2.size)⟩
    have d0 : W1.cell? ⟨q, 0, none⟩ = some (.int .u64 s0) := kb1.cell 0
    have d1 : W1.cell? ⟨q, 1, none⟩ = some (.slice A0 n0 C0) := kb1.cell 1
    clear kb1 b1 c1
    go_wp2_with fail
    refine (encode_of s0 A0 n0 C0 x0 (N : Int) W1 H.out.1 (H.out.2.1.below H1.out.2)).mono ?_
    rintro e W2 ⟨A, n, C, rfl, ow, b2, rfl⟩
    have hb2 := H1.out.2.trans (b2.mono H1.out.2.size)
    by_cases hg : GoodR x0 (N : Int)
    · have e1 : encE x0 (N : Int) = 0 := by unfold encE; rw [if_pos hg]
      have e2 : encB s0 x0 (N : Int) = encL s0 x0 N := by unfold encB; rw [if_pos hg, Int.toNat_natCast]
      rw [e1]
      rw [e2] at ow
      have hlen : (encL s0 x0 N).length = N := enc_length (by have := hg.bounds; omega)
      obtain ⟨bs, hbs⟩ : ∃ bs, bs = encL s0 x0 N := ⟨_, rfl⟩
      rw [← hbs] at ow hlen
      obtain rfl : C = N := by have := ow.1; rw [u8s_length, hlen] at this; omega
      obtain ⟨g, hA, hgB⟩ : ∃ g, A = some ⟨g, 0, none⟩ ∧ W1.heap.size ≤ g := by
        rcases ow.2 with ⟨_, hz⟩ | ⟨g, cap, cur, hv, hbg, _⟩
        · have := H.out; omega
        · cases hv; exact ⟨g, rfl, hbg⟩
      subst hA
      have kg := own_full ow
      have hfit : ∀ z ∈ bs, Fits8 z := by rw [hbs]; exact enc_fits _ _ _
      obtain ⟨hr, hr1, hr2⟩ := isR_enc H.out.1 H.out.2.1.2.2.1 hg
      rw [Int.toNat_natCast, ← hbs] at hr hr1 hr2
      have HG : Hid (Blk W2 g (u8s bs) 5 ∧ (∀ z ∈ bs, Fits8 z) ∧ bs.length = C ∧ IsR bs ∧ W1.heap.size ≤ g ∧ Below w.heap.size w W2 ∧ Blk W2 q [.int .u64 s0, .slice A0 n0 C0] 25) := ⟨kg, hfit, hlen, hr, hgB, hb2, H1.out.1.below b2 H1.out.1.lt⟩
      have hbin := own_bin ow (by have := H.out; unfold maxLen; omega) hfit
      clear e1 e2 ow kg hfit hlen hgB hb2 hbs hg b2
      have f1 : decE bs = 0 := by unfold decE; rw [if_pos hr]
      have f2 : decX bs = x0 := by unfold decX; rw [if_pos hr, hr2]
      have f3 : decS bs = s0 := by unfold decS; rw [if_pos hr, hr1]
      clear hr hr1 hr2
      go_wp2_with fail
      refine (decode_of (some ⟨g, 0, none⟩) C C bs W2 hbin (fun h => by cases h) (Nat.le_refl _) (by have := H.out; omega)).mono ?_
      rintro e W3 ⟨A2, m2, C2, rfl, it3, b3⟩
      rw [f1, f3]
      rw [f2] at it3
      clear f1 f2 f3 hbin d0 d1
      obtain ⟨q2, hq2⟩ : ∃ q2, q2 = W3.heap.size := ⟨_, rfl⟩
      have kb3 : Blk (W3.alloc (.cells #[.int .u64 s0, .slice A2 m2 C2] 25)) q2 [.int .u64 s0, .slice A2 m2 C2] 25 := Blk.new' hq2.symm rfl
      have b4 : Below W2.heap.size W2 (W3.alloc (.cells #[.int .u64 s0, .slice A2 m2 C2] 25)) := b3.alloc b3.size _
      have it4 := it3.alloc (.cells #[.int .u64 s0, .slice A2 m2 C2] 25)
      have hgq : g < q2 := by rw [hq2]; have := HG.out.1.lt; have := b3.size; omega
      go_upto_region 8 with fail
      rw [← hq2]
      generalize hW4 : World.alloc W3 _ = W4 at kb3 b4 it4 ⊢
      have kg4 := HG.out.1.below b4 HG.out.1.lt
      have kq4 := HG.out.2.2.2.2.2.2.below b4 HG.out.2.2.2.2.2.2.lt
      have H4 : Hid (Blk W4 q2 [.int .u64 s0, .slice A2 m2 C2] 25 ∧ Below w.heap.size w W4 ∧ ItsIn W4 A2 m2 x0 ∧ Blk W4 g (u8s bs) 5 ∧ Blk W4 q [.int .u64 s0, .slice A0 n0 C0] 25 ∧ g < q2) := ⟨kb3, HG.out.2.2.2.2.2.1.trans (b4.mono HG.out.2.2.2.2.2.1.size), it4, kg4, kq4, hgq⟩
      obtain ⟨y, hy⟩ : ∃ y, bs[t]? = some y := ⟨bs[t]'(by have := HG.out.2.2.1; have := H.out; omega), by simp⟩
      have cy : W4.cell? ⟨g, t, none⟩ = some (.int .u8 y) := by rw [kg4.cell]; simp [u8s, hy]
      have fy := kg4.frozen t
      have ht' : (t : Int) < C := by have := H.out; omega
      have hC0 : ¬ (C : Int) = 0 := by have := H.out; omega
      have HY : Hid (bs[t]? = some y) := hy
      clear kb3 b4 it4 kg4 kq4 hW4 hq2 b3 it3 hgq hy
      go_upto_region 11 with fail
      have ks := H4.out.2.2.2.1.set t (.int .u8 a3)
      have es : (u8s bs).set t (.int .u8 a3) = u8s (bs.set t a3) := by simp [u8s, List.map_set]
      rw [es] at ks
      have hqg : q ≠ g := by have := H1.out.1.lt; have := HG.out.2.2.2.2.1; omega
      have it5 := H4.out.2.2.1.set (u8_not H4.out.2.2.2.1) t (.int .u8 a3)
      have b5 := H4.out.2.1.setCell (p := ⟨g, t, none⟩) (by show w.heap.size ≤ g; have := HG.out.2.2.2.2.1; have := H1.out.2.size; omega) (.int .u8 a3)
      have kq5 := H4.out.2.2.2.2.1.set_other (a := ⟨g, t, none⟩) hqg (.int .u8 a3)
      have kr5 := H4.out.1.set_other (a := ⟨g, t, none⟩) (by show q2 ≠ g; have := H4.out.2.2.2.2.2; omega) (.int .u8 a3)
      generalize hW5 : World.setCell W4 _ _ = W5 at ks it5 b5 kq5 kr5 ⊢
      have hfit5 : ∀ z ∈ bs.set t a3, Fits8 z := by
        intro z hz
        rcases List.mem_or_eq_of_mem_set hz with h | h
        · exact HG.out.2.1 z h
        · rw [h]; exact H.out.2.2.1
      have hlen5 : (bs.set t a3).length = C := by rw [List.length_set]; exact HG.out.2.2.1
      have hbin5 : BIn W5 (some ⟨g, 0, none⟩) C (bs.set t a3) := ⟨hlen5, by have := H.out; unfold maxLen; omega, hfit5, .inr ⟨g, 0, rfl, fun j hj => by rw [Nat.zero_add, ks.cell]; simp only [u8s, List.getElem?_map, List.getD]; rw [List.getElem?_eq_getElem (by rw [hlen5]; exact hj)]; rfl⟩⟩
      have H5 : Hid (Below w.heap.size w W5 ∧ ItsIn W5 A2 m2 x0 ∧ Blk W5 q [.int .u64 s0, .slice A0 n0 C0] 25 ∧ Blk W5 q2 [.int .u64 s0, .slice A2 m2 C2] 25 ∧ BIn W5 (some ⟨g, 0, none⟩) C (bs.set t a3)) := ⟨b5, it5, kq5, kr5, hbin5⟩
      clear ks es hqg it5 b5 kq5 kr5 hW5 hfit5 hlen5 hbin5 cy fy ht' hC0 hM htt
      go_wp2_with fail
      refine (decode_of (some ⟨g, 0, none⟩) C C (bs.set t a3) W5 H5.out.2.2.2.2 (fun h => by cases h) (Nat.le_refl _) (by have := H.out; omega)).mono ?_
      rintro e W6 ⟨A3, m3, C3, rfl, _, b6⟩
      obtain ⟨E, hE⟩ : ∃ E, E = decE (bs.set t a3) := ⟨_, rfl⟩
      obtain ⟨S, hS⟩ : ∃ S, S = decS (bs.set t a3) := ⟨_, rfl⟩
      rw [← hE, ← hS]
      have hfin : (E == 0) = (y == a3) := by
        have hi : t < bs.length := by have := HG.out.2.2.1; have := H.out; omega
        have hyy : bs[t] = y := by have := HY.out; rw [List.getElem?_eq_getElem hi] at this; simpa using this
        by_cases hyc : y = a3
        · have : bs.set t a3 = bs := by rw [← hyc, ← hyy]; exact List.set_getElem_self hi
          rw [hE, this]
          unfold decE
          rw [if_pos HG.out.2.2.2.1]
          simp [hyc]
        · have := HG.out.2.2.2.1.one HG.out.2.1 hi H.out.2.2.1 (fun e => hyc (by rw [← hyy, ← e]))
          rw [hE]
          unfold decE
          rw [if_neg this]
          simp [hyc]
      have HF : Hid ((E == 0) = (y == a3)) := hfin
      clear hE hS hfin
      have b7 : Below W5.heap.size W5 (W6.alloc (.cells #[.int .u64 S, .slice A3 m3 C3] 25)) := b6.alloc b6.size _
      go_upto_region 12 with fail
      generalize hW7 : World.alloc W6 _ = W7 at b7 ⊢
      have kq7 := H5.out.2.2.1.below b7 H5.out.2.2.1.lt
      have kr7 := H5.out.2.2.2.1.below b7 H5.out.2.2.2.1.lt
      have d0 : W7.cell? ⟨q, 0, none⟩ = some (.int .u64 s0) := kq7.cell 0
      have d1 : W7.cell? ⟨q, 1, none⟩ = some (.slice A0 n0 C0) := kq7.cell 1
      have r0 : W7.cell? ⟨q2, 0, none⟩ = some (.int .u64 s0) := kr7.cell 0
      have r1 : W7.cell? ⟨q2, 1, none⟩ = some (.slice A2 m2 C2) := kr7.cell 1
      have hb7 := H5.out.1.trans (b7.mono H5.out.1.size)
      have H7 : Hid (Below w.heap.size w W7 ∧ ItsIn W7 A2 m2 x0) := ⟨hb7, H5.out.2.1.below b7⟩
      clear b7 b6 kq7 kr7 hb7 hW7
      go_wp2_with (go_at_call 18; refine (csame_of s0 A0 n0 C0 A2 m2 C2 x0 W7 (H.out.2.1.below H7.out.1) H7.out.2).mono ?_; rintro e W8 ⟨rfl, b8⟩)
      go_ret
      exact ⟨by rw [HF.out]; simp, H7.out.1.trans (b8.mono H7.out.1.size)⟩
    · have e1 : encE x0 (N : Int) = 110 := by unfold encE; rw [if_neg hg]
      have e2 : encB s0 x0 (N : Int) = [] := by unfold encB; rw [if_neg hg]
      rw [e1]
      rw [e2] at ow
      obtain rfl : C = 0 := by have := ow.1; simp [u8s] at this; omega
      have HB : Hid (Below w.heap.size w W2) := hb2
      clear e1 e2 ow hb2 hg b2 d0 d1
      go_wp2
      go_ret
      exact ⟨rfl, HB.out⟩

set_option maxRecDepth 100000 in
theorem lifted (os : Os) (started : os.Started) (H : Type) (enc : TypeId × Value → H) :
    ReturnsInHanded {} Try.checked os 5 .any (Rows.recBackSpec.pre6 enc Try.prog Try.f5 Rows.recBackRow.domain false) (Rows.recBackSpec.post enc Try.prog Try.f5 false true false false) := by
  refine returnsInHanded_of_change (C := Try.checked) own started (by kernel_rfl) Try.func5
    (ChangeSpec.witness6 (enc := enc) (C := Try.checked) false ⟨#[], #[.agg #[.int .u64 0, .slice none 0 0], .int .u8 0, .int .i64 0, .int .u8 0], []⟩ 8 (by kernel_rfl) (by kernel_rfl) (by kernel_rfl) (by kernel_rfl)) ?_
  intro W base args ds gs before hval0 hW hcnd _
  have hval : ∀ (j : Nat) t v, Try.f5.params[j]? = some t → args[j]? = some v → Value.okWide Try.prog W .any base t v := hval0
  have hW' := hW
  obtain ⟨p, q, hA0, hV, rfl, hfz, hnd⟩ := hW
  have hA : DataW.TrodAll enc Try.prog W 0 (fun _ => true) true Try.f5.params.toList args.toList ds p := hA0
  rw [Try.params5] at hA hval
  obtain ⟨v0, vs0, d0, ds0, p0, q0, hargs, rfl, rfl, h0, r0⟩ := trodAll_cons hA
  obtain ⟨v1, vs1, d1, ds1, p1, q1, rfl, rfl, rfl, h1, r1⟩ := trodAll_cons r0
  obtain ⟨v2, vs2, d2, ds2, p2, q2, rfl, rfl, rfl, h2, r2⟩ := trodAll_cons r1
  obtain ⟨v3, vs3, d3, ds3, p3, q3, rfl, rfl, rfl, h3, r3⟩ := trodAll_cons r2
  obtain ⟨rfl, rfl, rfl⟩ := trodAll_nil r3
  obtain rfl : args = #[v0, v1, v2, v3] := by cases args; simp_all
  obtain ⟨rfl, rfl⟩ := trodVars_none hV
  have k0 := h0
  have lt0 : ∀ x ∈ p0, x.block < W.heap.size := by obtain ⟨m, hm⟩ := k0; exact DataW.trod_lt m _ _ _ hm
  obtain ⟨s0, A0, n0, C0, x0, rfl, w0⟩ := open_record (hval 0 25 v0 rfl rfl) h0
  obtain ⟨a1, rfl, rfl, rfl, w1⟩ := open_int Try.underlying5 (hval 1 5 v1 rfl rfl) h1
  obtain ⟨a2, rfl, rfl, rfl, w2⟩ := open_int Try.underlying3 (hval 2 3 v2 rfl rfl) h2
  obtain ⟨a3, rfl, rfl, rfl, w3⟩ := open_int Try.underlying5 (hval 3 5 v3 rfl rfl) h3
  clear hA0 hval0
  refine (walk s0 A0 n0 C0 x0 a1 a2 a3 W w0 w1 w2 w3).mono fun e W' ⟨he, bel⟩ => ?_
  subst he
  exact ⟨_, rfl, _, _, _, [], _, [], hW', trodAll_mk1 (shut_bool Try.underlying4 _), (trodAll_cons_mk (Below.trod laidOut (by kernel_rfl) (of_decide_eq_true (by kernel_rfl)) k0 bel lt0) (trodAll_cons_mk (shut_int Try.underlying5 w1) (trodAll_cons_mk (shut_int Try.underlying3 w2) (trodAll_cons_mk (shut_int Try.underlying5 w3) trodAll_mk0)))), rfl, bel.frame _, fun h => by cases h⟩

theorem over : Rows.recBackRow.holds Try.pinned (OpenSpec.ofChange Rows.recBackSpec) :=
  OpenClaim.holds_of_wide 5 Try.f5 rfl rfl rfl rfl rfl rfl rfl ⟨rfl, rfl, rfl, rfl, rfl⟩ rfl rfl rfl rfl rfl (by kernel_rfl) Try.func5 (by kernel_rfl)
    (of_decide_eq_true (by kernel_rfl)) (by unfold Func.isWrapper; first | (rw [if_pos (by decide +kernel)]; kernel_rfl) | (rw [if_neg (by decide +kernel)]; exact ⟨rfl, rfl⟩))
    (fun os started H enc _ => lifted os started H enc)

end Go.Proofs.Ytggeadjebkhomaa.recBack
namespace Go.Proofs.Ytggeadjebkhomaa
/-- The statement. -/
theorem recBack_holds : Rows.RecBackSaid := recBack.over
#print axioms recBack_holds
end Go.Proofs.Ytggeadjebkhomaa
