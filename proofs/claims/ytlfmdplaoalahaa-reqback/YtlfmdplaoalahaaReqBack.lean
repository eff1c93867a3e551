/- A request that is written is read. -/
import Derived.Test.YtlfmdplaoalahaaRows
import Derived.Test.YtlfmdplaoalahaaROpen
import Derived.Test.YtlfmdplaoalahaaRSame
import Derived.WalkKit
import Derived.ProofKit
import Derived.OpenShut
import Derived.ShutString
import Derived.ChangeOld
import Derived.Below
namespace Go.Proofs.Ytlfmdplaoalahaa.reqBack
open Go.ChangeShapes Go.WideShapes Go.ChangeAt Go.RowKit
open Go.ChangeMaps (open_string shut_string)
set_option linter.unusedVariables false

theorem own : ownKnob Try.prog.godebug = none := by kernel_rfl
theorem laidOut : laidOutB Try.prog = true := by kernel_rfl

/-- WHAT THE WALK IS TOLD OF A SLICE OF INTEGERS THAT CAME IN: it is nil; or it leads to a row of 'cap' cells, the numbers 'zs' (the first 'len' are its elements, the rest its spare room), each fitting its kind. -/
def IsRow (k : IntKind) (w : World) (a : Option Addr) (len cap : Nat) (zs : List Int) : Prop :=
  (a = none ∧ len = 0 ∧ cap = 0 ∧ zs = []) ∨
  ∃ x, a = some x ∧ len ≤ cap ∧ cap ≤ maxLen ∧ zs.length = cap ∧ (∀ i, i < zs.length → w.cell? (x.add i) = some (.int k (zs.getD i 0))) ∧ ∀ n ∈ zs, (Lit.int k n).wf = true

theorem wrD_len (r : Rq) (D : List Int) : (wrD r D).length ≤ D.length := by unfold wrD; split <;> simp
theorem bin_set4 {w : World} {A : Option Addr} {k : Nat} {D : List Int} (h : BIn w A k D) {p : Nat} {r : Rq} {A2 : Option Addr} {k2 C2 : Nat} (hb : Blk w p (reqL r A2 k2 C2) 28) {v : Value} : BIn (w.setCell ⟨p, 4, none⟩ v) A k D := by
  obtain ⟨h1, h2, h3, h4⟩ := h
  refine ⟨h1, h2, h3, ?_⟩
  rcases h4 with h4 | ⟨b, off, ha, hc⟩
  · exact .inl h4
  · refine .inr ⟨b, off, ha, fun i hi => ?_⟩
    have hci := hc i hi
    by_cases he : b = p ∧ off + i = 4
    · obtain ⟨rfl, h0⟩ := he
      rw [h0, hb.cell 4] at hci
      simp [reqL] at hci
    · rw [World.cell?_setCell_other _ _ _ _ (by intro e; injection e with e1 e2; exact he ⟨e1.symm, e2.symm⟩)]
      exact hci
set_option maxHeartbeats 4000000 in
theorem walk (r0 : Rq) (A0 : Option Addr) (k0 C0 : Nat) (D0 : List Int) (a1 : Option Addr) (len1 cap1 : Nat) (z1 : List Int) (a2 : Int) (w : World) (w0 : r0.Fits ∧ DIn w A0 k0 C0 D0) (w1 : IsRow .u8 w a1 len1 cap1 z1) (w2 : (Lit.int .i64 a2).wf = true) :
    Calls Try.prog 6 #[.agg (reqL r0 A0 k0 C0).toArray, .slice a1 len1 cap1, .int .i64 a2] w fun e w' => e = .returned (.bool true) ∧ Below w.heap.size w w' := by
  obtain ⟨hr, hD⟩ := w0
  obtain ⟨hx, hxc, hxn⟩ := row_nin w1
  obtain ⟨X, eX⟩ : ∃ X, X = z1.take len1 := ⟨_, rfl⟩
  rw [← eX] at hx
  obtain ⟨q, hq⟩ : ∃ q, q = w.heap.size := ⟨_, rfl⟩
  have b0 : Blk (w.alloc (.cells (reqL r0 A0 k0 C0).toArray 28)) q (reqL r0 A0 k0 C0) 28 := Blk.new' hq.symm rfl
  have bw : Below q w (w.alloc (.cells (reqL r0 A0 k0 C0).toArray 28)) := (Below.refl _ _).alloc (by omega) _
  have hqw : q ≤ w.heap.size := by omega
  have b2 := bounds_i64 w2
  have H : Hid (r0.Fits ∧ DIn w A0 k0 C0 D0 ∧ BIn w a1 len1 X ∧ (a1 = none → len1 = 0 ∧ cap1 = 0) ∧ q ≤ w.heap.size ∧ q = w.heap.size) := ⟨hr, hD, hx.b, hxn, hqw, hq⟩
  obtain ⟨M, hM⟩ : ∃ M : Int, M = max a2 0 := ⟨_, rfl⟩
  have hM0 : (if a2 < 0 then 0 else a2) = M := by rw [hM]; split <;> omega
  have hM1 : 0 ≤ M := by omega
  have hM2 : M ≤ 9223372036854775807 := by omega
  have HMM : Hid (0 ≤ M ∧ M ≤ 9223372036854775807) := ⟨hM1, hM2⟩
  rw [← hq]
  clear hr hD hx hxc hxn eX w1 w2 hqw hM b2
  go_enter Try.func6, Try.ntmps6
  go_upto_region 1 with fail
  rw [← hq]
  generalize hW : World.alloc w _ = W at b0 bw ⊢
  have HW : Hid (Blk W q (reqL r0 A0 k0 C0) 28 ∧ Below q w W ∧ DIn W A0 k0 C0 D0 ∧ BIn W a1 len1 X) := ⟨b0, bw, H.out.2.1.below (by rw [← H.out.2.2.2.2.2]; exact bw), H.out.2.2.1.below (by rw [← H.out.2.2.2.2.2]; exact bw)⟩
  have c5 : W.cell? ⟨q, 5, none⟩ = some (.slice A0 k0 C0) := b0.cell 5
  clear hW hq b0 bw
  by_cases h1 : (2000 : Int) < k0
  · have d1 : decide ((2000 : Int) < k0) = true := decide_eq_true h1
    go_wp2_with fail
    refine (rknown_any W).mono ?_
    rintro e w1 ⟨rfl, b1⟩
    have B1 : Hid (Below q w w1) := below_via HW.out.2.1 H.out.2.2.2.2.1 b1
    clear b1
    go_wp2
    go_ret
    exact ⟨rfl, B1.out⟩
  by_cases h2 : (2000 : Int) < len1
  · have d1 : decide ((2000 : Int) < k0) = false := decide_eq_false h1
    have d2 : decide ((2000 : Int) < len1) = true := decide_eq_true h2
    go_wp2_with fail
    refine (rknown_any W).mono ?_
    rintro e w1 ⟨rfl, b1⟩
    have B1 : Hid (Below q w w1) := below_via HW.out.2.1 H.out.2.2.2.2.1 b1
    clear b1
    go_wp2
    go_ret
    exact ⟨rfl, B1.out⟩
  have d1 : decide ((2000 : Int) < k0) = false := decide_eq_false h1
  have d2 : decide ((2000 : Int) < len1) = false := decide_eq_false h2
  have n1 : k0 ≤ 2000 := by omega
  have n2 : len1 ≤ 2000 := by omega
  have HN : Hid (k0 ≤ 2000 ∧ len1 ≤ 2000) := ⟨n1, n2⟩
  clear h1 h2
  go_wp2_with fail
  refine (rknown_any W).mono ?_
  rintro e W1 ⟨rfl, b1⟩
  have H1 : Hid (Blk W1 q (reqL r0 A0 k0 C0) 28 ∧ Below q w W1 ∧ DIn W1 A0 k0 C0 D0 ∧ BIn W1 a1 len1 X) := ⟨HW.out.1.below b1 HW.out.1.lt, below_via HW.out.2.1 H.out.2.2.2.2.1 b1, HW.out.2.2.1.below b1, HW.out.2.2.2.below b1⟩
  clear b1 c5 d1 d2
  obtain ⟨c0, c1, c2, c3, c4, c5⟩ := six_cells H1.out.1
  obtain ⟨Y, hY⟩ : ∃ L, L = wrL r0 D0 := ⟨_, rfl⟩
  have hYl : Y.length = 28 + (wrD r0 D0).length := by rw [hY, wrL_length]
  have hYb : 28 ≤ Y.length ∧ Y.length ≤ 2028 := by have := wrD_len r0 D0; rw [H.out.2.1.1.1] at this; omega
  have hYf : ∀ z ∈ Y, Fits8 z := by rw [hY]; exact wrL_fits H.out.2.1.1.2.2.1
  have hwhole := next_whole H.out.1 D0 X (by rw [H.out.2.1.1.1]; omega)
  have hfront := fun cut (h : cut < (wrL r0 D0).length) => next_front H.out.1 D0 (by rw [H.out.2.1.1.1]; omega) h
  rw [← hY] at hwhole
  rw [← hY] at hfront
  go_wp2_with fail
  refine (write_of r0 A0 k0 C0 D0 W1 H.out.1 H1.out.2.2.1 (by have := HN.out; omega)).mono ?_
  rw [← hY]
  rintro e W2 ⟨B2, m, E2, rfl, o2, b2⟩
  have hm : m = Y.length := by have := o2.1; rw [u8s_length] at this; omega
  have HY : Hid (m = Y.length ∧ (∀ z ∈ Y, Fits8 z) ∧ 28 ≤ m ∧ m ≤ 2028 ∧ (nxR (Y ++ X) = wrR r0 D0.length ∧ nxD (Y ++ X) = wrD r0 D0 ∧ nxC (Y ++ X) = (Y.length : Nat) ∧ nxE (Y ++ X) = 0) ∧ ∀ cut, cut < Y.length → nxR (Y.take cut) = rq0 ∧ nxD (Y.take cut) = [] ∧ nxC (Y.take cut) = 0 ∧ nxE (Y.take cut) = 80) := ⟨hm, hYf, by omega, by omega, hwhole, fun cut h => nx_bad (hfront cut h).2 (by decide)⟩
  have H2 : Hid (Blk W2 q (reqL r0 A0 k0 C0) 28 ∧ Below q w W2 ∧ DIn W2 A0 k0 C0 D0 ∧ BIn W2 a1 len1 X ∧ BIn W2 B2 m Y ∧ (B2 = none → m = 0 ∧ E2 = 0) ∧ m ≤ E2) := ⟨H1.out.1.below b2 H1.out.1.lt, below_via H1.out.2.1 H.out.2.2.2.2.1 b2, H1.out.2.2.1.below b2, H1.out.2.2.2.below b2, own_bin o2 (by unfold maxLen; omega) hYf, own_nil o2, own_capN o2⟩
  clear o2 b2 hY hYl hYb hYf hwhole hfront hm c0 c1 c2 c3 c4 c5
  have hm1 : 28 ≤ m := HY.out.2.2.1
  have hm2 : m ≤ 2028 := HY.out.2.2.2.1
  go_wp2_with fail
  refine (lentBytes_of B2 m E2 Y W2 H2.out.2.2.2.2.1 H2.out.2.2.2.2.2.1 (by omega)).mono ?_
  rintro e W3 ⟨B3, E3, rfl, o3, b3⟩
  have H3 : Hid (Blk W3 q (reqL r0 A0 k0 C0) 28 ∧ Below q w W3 ∧ DIn W3 A0 k0 C0 D0 ∧ BIn W3 a1 len1 X ∧ BIn W3 B2 m Y ∧ W3.ownsRow W2.heap.size 5 1 (.slice B3 m E3) m (u8s Y) ∧ W2.heap.size ≤ W3.heap.size ∧ Below W2.heap.size W2 W3) := ⟨H2.out.1.below b3 H2.out.1.lt, below_via H2.out.2.1 H.out.2.2.2.2.1 b3, H2.out.2.2.1.below b3, H2.out.2.2.2.1.below b3, H2.out.2.2.2.2.1.below b3, o3, b3.size, b3⟩
  clear o3 b3
  go_upto_region 6 with (at_builtin; refine wpList_append_bin rfl (.tmp 34) (.tmp 35) rfl W2.heap.size B3 m E3 Y rfl H3.out.2.2.2.2.2.1 a1 len1 cap1 X rfl H3.out.2.2.2.1 H.out.2.2.2.1 (by omega) H3.out.2.2.2.2.2.2.1 ?_; intro B4 E4 W4 o4 b4)
  have hf4 : ∀ z ∈ Y ++ X, Fits8 z := fun z hz => by rcases List.mem_append.1 hz with h | h; exact HY.out.2.1 z h; exact H.out.2.2.1.2.2.1 z h
  have H4 : Hid (Blk W4 q (reqL r0 A0 k0 C0) 28 ∧ Below q w W4 ∧ DIn W4 A0 k0 C0 D0 ∧ BIn W4 B2 m Y ∧ BIn W4 B4 (m + len1) (Y ++ X) ∧ (B4 = none → m + len1 = 0 ∧ E4 = 0) ∧ m + len1 ≤ E4) := by
    have bb := H3.out.2.2.2.2.2.2.2.trans b4
    exact ⟨H2.out.1.below bb H2.out.1.lt, below_via H2.out.2.1 H.out.2.2.2.2.1 bb, H2.out.2.2.1.below bb, H2.out.2.2.2.2.1.below bb, own_bin o4 (by unfold maxLen; omega) hf4, own_nil o4, own_capN o4⟩
  clear o4 b4 hf4 H3
  go_wp2_with fail
  refine (next_of B4 (m + len1) E4 (Y ++ X) W4 H4.out.2.2.2.2.1 H4.out.2.2.2.2.2.1 H4.out.2.2.2.2.2.2 (by omega)).mono ?_
  rw [HY.out.2.2.2.2.1.1, HY.out.2.2.2.2.1.2.1, HY.out.2.2.2.2.1.2.2.1, HY.out.2.2.2.2.1.2.2.2, ← HY.out.1]
  rintro e W5 ⟨B5, k5, E5, rfl, d5, -, b5⟩
  have H5 : Hid (Blk W5 q (reqL r0 A0 k0 C0) 28 ∧ Below q w W5 ∧ DIn W5 A0 k0 C0 D0 ∧ BIn W5 B2 m Y ∧ BIn W5 B5 k5 (wrD r0 D0)) := ⟨H4.out.1.below b5 H4.out.1.lt, below_via H4.out.2.1 H.out.2.2.2.2.1 b5, H4.out.2.2.1.below b5, H4.out.2.2.2.1.below b5, d5⟩
  clear d5 b5
  obtain ⟨R, hR⟩ : ∃ R, R = wrR r0 D0.length := ⟨_, rfl⟩
  rw [← hR]
  have HR : Hid (R = wrR r0 D0.length) := hR
  clear hR
  go_upto_region 7 with (refine wpList_store_req rfl (.tmp 9) (.tmp 40) rfl W5.heap.size R B5 k5 E5 rfl rfl ?hT ?_; (case hT => exact req_there _); intro W6 hU; have H6 : Hid (Blk W6 q (reqL r0 A0 k0 C0) 28 ∧ Below q w W6 ∧ DIn W6 A0 k0 C0 D0 ∧ BIn W6 B2 m Y ∧ BIn W6 B5 k5 (wrD r0 D0) ∧ Blk W6 W5.heap.size (reqL R B5 k5 E5) 28) := (have u := req_kept hU; ⟨H5.out.1.below u.2 H5.out.1.lt, below_via H5.out.2.1 H.out.2.2.2.2.1 u.2, H5.out.2.2.1.below u.2, H5.out.2.2.2.1.below u.2, H5.out.2.2.2.2.below u.2, u.1⟩); clear hU)
  have hmz : ¬ (m : Int) = 0 := by omega
  obtain ⟨K, hK⟩ : ∃ K : Nat, M % (m : Int) = K := ⟨(M % m).toNat, (Int.toNat_of_nonneg (Int.emod_nonneg _ hmz)).symm⟩
  have hKm : K < m := by have := Int.emod_lt_of_pos M (show (0 : Int) < m by omega); omega
  have HK : Hid (K < m ∧ (nxR (Y.take K) = rq0 ∧ nxD (Y.take K) = [] ∧ nxC (Y.take K) = 0 ∧ nxE (Y.take K) = 80)) := ⟨hKm, HY.out.2.2.2.2.2 K (by rw [← HY.out.1]; exact hKm)⟩
  have hsl := fun w => slice_front Try.underlying22 Try.one_bytes B2 m E2 K (by have := H2.out.2.2.2.2.2.2; omega) w
  clear hKm
  go_wp2_with fail
  refine (next_of B2 K E2 (Y.take K) W6 ((H6.out.2.2.2.1.n.front K (by have := HK.out.1; omega)).b) (fun e => by have := H2.out.2.2.2.2.2.1 e; omega) (by have := HK.out.1; have := H2.out.2.2.2.2.2.2; omega) (by have := HK.out.1; omega)).mono ?_
  rw [HK.out.2.1, HK.out.2.2.1, HK.out.2.2.2.1, HK.out.2.2.2.2]
  rintro e W7 ⟨B7, k7, E7, rfl, d7, -, b7⟩
  have H7 : Hid (Blk W7 q (reqL r0 A0 k0 C0) 28 ∧ Below q w W7 ∧ DIn W7 A0 k0 C0 D0 ∧ BIn W7 B5 k5 (wrD r0 D0) ∧ Blk W7 W5.heap.size (reqL R B5 k5 E5) 28) := ⟨H6.out.1.below b7 H6.out.1.lt, below_via H6.out.2.1 H.out.2.2.2.2.1 b7, H6.out.2.2.1.below b7, H6.out.2.2.2.2.1.below b7, H6.out.2.2.2.2.2.below b7 H6.out.2.2.2.2.2.lt⟩
  clear d7 b7 hsl hK hmz
  obtain ⟨s5, hs5⟩ : ∃ s5, s5 = W5.heap.size := ⟨_, rfl⟩
  rw [← hs5] at H7 ⊢
  clear hs5
  go_upto_region 8 with (refine wpList_store_req rfl (.tmp 12) (.tmp 52) rfl W7.heap.size rq0 B7 k7 E7 rfl rfl ?hT ?_; (case hT => exact req_there _); intro W8 hU; have H8 : Hid (Blk W8 q (reqL r0 A0 k0 C0) 28 ∧ Below q w W8 ∧ DIn W8 A0 k0 C0 D0 ∧ BIn W8 B5 k5 (wrD r0 D0) ∧ Blk W8 s5 (reqL R B5 k5 E5) 28) := (have u := req_kept hU; ⟨H7.out.1.below u.2 H7.out.1.lt, below_via H7.out.2.1 H.out.2.2.2.2.1 u.2, H7.out.2.2.1.below u.2, H7.out.2.2.2.1.below u.2, H7.out.2.2.2.2.below u.2 H7.out.2.2.2.2.lt⟩); clear hU)
  obtain ⟨c0, c1, c2, c3, c4, c5⟩ := six_cells H8.out.1
  go_upto_region 9 with (refine wpList_store_req rfl (.tmp 15) (.tmp 55) rfl W8.heap.size r0 A0 k0 C0 rfl rfl ?hT ?_; (case hT => exact req_there _); intro Z8 hU; have J8 : Hid (Blk Z8 q (reqL r0 A0 k0 C0) 28 ∧ Below q w Z8 ∧ DIn Z8 A0 k0 C0 D0 ∧ BIn Z8 B5 k5 (wrD r0 D0) ∧ Blk Z8 s5 (reqL R B5 k5 E5) 28 ∧ Blk Z8 W8.heap.size (reqL r0 A0 k0 C0) 28 ∧ q < W8.heap.size ∧ s5 < W8.heap.size) := (have u := req_kept hU; ⟨H8.out.1.below u.2 H8.out.1.lt, below_via H8.out.2.1 H.out.2.2.2.2.1 u.2, H8.out.2.2.1.below u.2, H8.out.2.2.2.1.below u.2, H8.out.2.2.2.2.below u.2 H8.out.2.2.2.2.lt, u.1, H8.out.1.lt, H8.out.2.2.2.2.lt⟩); clear hU)
  obtain ⟨p, hp⟩ : ∃ p, p = W8.heap.size := ⟨_, rfl⟩
  rw [← hp] at J8 ⊢
  clear hp c0 c1 c2 c3 c4 c5
  have c1 : Z8.cell? ⟨q, 1, none⟩ = some (.int .u16 r0.kd) := J8.out.1.cell 1
  have c5 : Z8.cell? ⟨q, 5, none⟩ = some (.slice A0 k0 C0) := J8.out.1.cell 5
  have hqp : q ≠ p := by have := J8.out.2.2.2.2.2.2; omega
  have hsp : s5 ≠ p := by have := J8.out.2.2.2.2.2.2; omega
  by_cases hkd : r0.kd = 1
  · have hk' : (r0.kd == 1) = true := by rw [hkd]; rfl
    have hu : IntKind.u32.wrap (k0 : Int) = k0 := by rw [IntKind.wrap_u32]; omega
    have g4 : Z8.cell? ⟨p, 4, none⟩ = some (.int .u32 r0.ln) := J8.out.2.2.2.2.2.1.cell 4
    have z4 := J8.out.2.2.2.2.2.1.frozen 4
    have eR : R = ⟨r0.fl, r0.kd, r0.ck, r0.ofs, (k0 : Int)⟩ := by rw [HR.out]; unfold wrR; rw [if_pos hkd, H.out.2.1.1.1]
    have eD : wrD r0 D0 = D0 := if_pos hkd
    have HE : Hid (R = ⟨r0.fl, r0.kd, r0.ck, r0.ofs, (k0 : Int)⟩ ∧ wrD r0 D0 = D0) := ⟨eR, eD⟩
    clear hkd eR eD
    go_upto_region 12 with fail
    have s9 : Blk (Z8.setCell ⟨p, 4, none⟩ (.int .u32 (k0 : Int))) p (reqL R A0 k0 C0) 28 := by rw [HE.out.1]; exact J8.out.2.2.2.2.2.1.set 4 _
    have v9 : Blk (Z8.setCell ⟨p, 4, none⟩ (.int .u32 (k0 : Int))) s5 (reqL R B5 k5 E5) 28 := J8.out.2.2.2.2.1.set_other (by show s5 ≠ p; exact hsp) _
    have w9 : Below q w (Z8.setCell ⟨p, 4, none⟩ (.int .u32 (k0 : Int))) := J8.out.2.1.setCell (by have := J8.out.2.2.2.2.2.2; show q ≤ p; omega) _
    have d9 : BIn (Z8.setCell ⟨p, 4, none⟩ (.int .u32 (k0 : Int))) B5 k5 (wrD r0 D0) := bin_set4 J8.out.2.2.2.1 J8.out.2.2.2.2.2.1
    have f9 : BIn (Z8.setCell ⟨p, 4, none⟩ (.int .u32 (k0 : Int))) A0 k0 (wrD r0 D0) := by rw [HE.out.2]; exact bin_set4 J8.out.2.2.1.1 J8.out.2.2.2.2.2.1
    generalize hZ : World.setCell Z8 _ _ = Z9 at s9 v9 w9 d9 f9 ⊢
    have H9 : Hid (Below q w Z9 ∧ True ∧ Blk Z9 p (reqL R A0 k0 C0) 28 ∧ Blk Z9 s5 (reqL R B5 k5 E5) 28 ∧ BIn Z9 B5 k5 (wrD r0 D0) ∧ BIn Z9 A0 k0 (wrD r0 D0)) := ⟨w9, trivial, s9, v9, d9, f9⟩
    clear s9 v9 w9 d9 f9 hZ c1 c5 g4 z4 hu hk' hqp hsp
    obtain ⟨x0, x1, x2, x3, x4, x5⟩ := six_cells H9.out.2.2.2.1
    obtain ⟨y0, y1, y2, y3, y4, y5⟩ := six_cells H9.out.2.2.1
    go_wp2_with fail
    refine (sameRequest_of R B5 k5 E5 A0 k0 C0 (wrD r0 D0) Z9 H9.out.2.2.2.2.1 H9.out.2.2.2.2.2).mono ?_
    rintro e Z10 ⟨rfl, b10⟩
    have H10 : Hid (Below q w Z10) := below_via H9.out.1 H.out.2.2.2.2.1 b10
    clear b10 x0 x1 x2 x3 x4 x5 y0 y1 y2 y3 y4 y5
    go_wp2
    go_ret
    exact ⟨rfl, H10.out⟩
  · have hk' : (r0.kd == 1) = false := by simp [hkd]
    have g5 : Z8.cell? ⟨p, 5, none⟩ = some (.slice A0 k0 C0) := J8.out.2.2.2.2.2.1.cell 5
    have z5 := J8.out.2.2.2.2.2.1.frozen 5
    have eR : R = r0 := by rw [HR.out]; unfold wrR; rw [if_neg hkd]
    have eD : wrD r0 D0 = [] := if_neg hkd
    have HE : Hid (R = r0 ∧ wrD r0 D0 = []) := ⟨eR, eD⟩
    clear hkd eR eD
    go_upto_region 12 with fail
    have s9 : Blk (Z8.setCell ⟨p, 5, none⟩ (.slice none 0 0)) p (reqL R none 0 0) 28 := by rw [HE.out.1]; exact J8.out.2.2.2.2.2.1.set 5 _
    have v9 : Blk (Z8.setCell ⟨p, 5, none⟩ (.slice none 0 0)) s5 (reqL R B5 k5 E5) 28 := J8.out.2.2.2.2.1.set_other (by show s5 ≠ p; exact hsp) _
    have w9 : Below q w (Z8.setCell ⟨p, 5, none⟩ (.slice none 0 0)) := J8.out.2.1.setCell (by have := J8.out.2.2.2.2.2.2; show q ≤ p; omega) _
    have k50 : k5 = 0 := by have := J8.out.2.2.2.1.1; rw [HE.out.2] at this; exact this.symm
    have d9 : BIn (Z8.setCell ⟨p, 5, none⟩ (.slice none 0 0)) B5 k5 (wrD r0 D0) := by rw [HE.out.2, k50]; exact ⟨rfl, Nat.zero_le _, by simp, .inl rfl⟩
    have f9 : BIn (Z8.setCell ⟨p, 5, none⟩ (.slice none 0 0)) none 0 (wrD r0 D0) := by rw [HE.out.2]; exact bin_none _
    generalize hZ : World.setCell Z8 _ _ = Z9 at s9 v9 w9 d9 f9 ⊢
    have H9 : Hid (Below q w Z9 ∧ True ∧ Blk Z9 p (reqL R none 0 0) 28 ∧ Blk Z9 s5 (reqL R B5 k5 E5) 28 ∧ BIn Z9 B5 k5 (wrD r0 D0) ∧ BIn Z9 none 0 (wrD r0 D0)) := ⟨w9, trivial, s9, v9, d9, f9⟩
    clear s9 v9 w9 d9 f9 hZ c1 c5 g5 z5 hk' hqp hsp k50
    obtain ⟨x0, x1, x2, x3, x4, x5⟩ := six_cells H9.out.2.2.2.1
    obtain ⟨y0, y1, y2, y3, y4, y5⟩ := six_cells H9.out.2.2.1
    go_wp2_with fail
    refine (sameRequest_of R B5 k5 E5 none 0 0 (wrD r0 D0) Z9 H9.out.2.2.2.2.1 H9.out.2.2.2.2.2).mono ?_
    rintro e Z10 ⟨rfl, b10⟩
    have H10 : Hid (Below q w Z10) := below_via H9.out.1 H.out.2.2.2.2.1 b10
    clear b10 x0 x1 x2 x3 x4 x5 y0 y1 y2 y3 y4 y5
    go_wp2
    go_ret
    exact ⟨rfl, H10.out⟩

set_option maxRecDepth 100000 in
theorem lifted (os : Os) (started : os.Started) (H : Type) (enc : TypeId × Value → H) :
    ReturnsInHanded {} Try.checked os 6 .any (Rows.reqBackSpec.pre6 enc Try.prog Try.f6 Rows.reqBackRow.domain false) (Rows.reqBackSpec.post enc Try.prog Try.f6 false true false false) := by
  refine returnsInHanded_of_change (C := Try.checked) own started (by kernel_rfl) Try.func6
    (ChangeSpec.witness6 (enc := enc) (C := Try.checked) false ⟨#[], #[.agg #[.int .u16 0, .int .u16 0, .int .u64 0, .int .u64 0, .int .u32 0, .slice none 0 0], .slice none 0 0, .int .i64 0], []⟩ 8 (by kernel_rfl) (by kernel_rfl) (by kernel_rfl) (by kernel_rfl)) ?_
  intro W base args ds gs before hval0 hW hcnd _
  have hval : ∀ (j : Nat) t v, Try.f6.params[j]? = some t → args[j]? = some v → Value.okWide Try.prog W .any base t v := hval0
  have hW' := hW
  obtain ⟨p, q, hA0, hV, rfl, hfz, hnd⟩ := hW
  have hA : DataW.TrodAll enc Try.prog W 0 (fun _ => true) true Try.f6.params.toList args.toList ds p := hA0
  rw [Try.params6] at hA hval
  obtain ⟨v0, vs0, d0, ds0, p0, q0, hargs, rfl, rfl, h0, r0⟩ := trodAll_cons hA
  obtain ⟨v1, vs1, d1, ds1, p1, q1, rfl, rfl, rfl, h1, r1⟩ := trodAll_cons r0
  obtain ⟨v2, vs2, d2, ds2, p2, q2, rfl, rfl, rfl, h2, r2⟩ := trodAll_cons r1
  obtain ⟨rfl, rfl, rfl⟩ := trodAll_nil r2
  obtain rfl : args = #[v0, v1, v2] := by cases args; simp_all
  obtain ⟨rfl, rfl⟩ := trodVars_none hV
  have kk0 := h0
  have lt0 : ∀ x ∈ p0, x.block < W.heap.size := by obtain ⟨m, hm⟩ := kk0; exact DataW.trod_lt m _ _ _ hm
  obtain ⟨rq0, AA0, kq0, CC0, DD0, rfl, w0⟩ := open_request (hval 0 28 v0 rfl rfl) h0
  obtain ⟨a1, len1, cap1, rfl⟩ := okWide_slice Try.underlying22 (hval 1 22 v1 rfl rfl)
  have k1 := h1
  have lt1 : ∀ x ∈ p1, x.block < W.heap.size := by obtain ⟨m, hm⟩ := k1; exact DataW.trod_lt m _ _ _ hm
  obtain ⟨z1, w1⟩ : ∃ zs, IsRow .u8 W a1 len1 cap1 zs := by
    obtain ⟨fuel, hf⟩ := h1
    rcases open_ints Try.underlying22 Try.underlying5 (by kernel_rfl) hf with ⟨hcs, _⟩ | ⟨x, l, c, zs, hcs, _, hl, hm, hz, _, hcell, hwz⟩
    · simp [Value.cells] at hcs
      obtain ⟨rfl, rfl, rfl⟩ := hcs
      exact ⟨[], .inl ⟨rfl, rfl, rfl, rfl⟩⟩
    · simp [Value.cells] at hcs
      obtain ⟨rfl, rfl, rfl⟩ := hcs
      exact ⟨zs, .inr ⟨_, rfl, hl, hm, by simpa using hz, hcell, hwz⟩⟩
  obtain ⟨a2, rfl, rfl, rfl, w2⟩ := open_int Try.underlying3 (hval 2 3 v2 rfl rfl) h2
  clear hA0 hval0
  refine (walk rq0 AA0 kq0 CC0 DD0 a1 len1 cap1 z1 a2 W w0 w1 w2).mono fun e W' ⟨he, bel⟩ => ?_
  subst he
  exact ⟨_, rfl, _, _, _, [], _, [], hW', trodAll_mk1 (shut_bool Try.underlying4 _), (trodAll_cons_mk (Below.trod laidOut (by kernel_rfl) (of_decide_eq_true (by kernel_rfl)) kk0 bel lt0) (trodAll_cons_mk (Below.trod laidOut (by kernel_rfl) (of_decide_eq_true (by kernel_rfl)) k1 bel lt1) (trodAll_cons_mk (shut_int Try.underlying3 w2) trodAll_mk0))), rfl, bel.frame _, fun h => by cases h⟩

theorem over : Rows.reqBackRow.holds Try.pinned (OpenSpec.ofChange Rows.reqBackSpec) :=
  OpenClaim.holds_of_wide 6 Try.f6 rfl rfl rfl rfl rfl rfl rfl ⟨rfl, rfl, rfl, rfl, rfl⟩ rfl rfl rfl rfl rfl (by kernel_rfl) Try.func6 (by kernel_rfl)
    (of_decide_eq_true (by kernel_rfl)) (by unfold Func.isWrapper; first | (rw [if_pos (by decide +kernel)]; kernel_rfl) | (rw [if_neg (by decide +kernel)]; exact ⟨rfl, rfl⟩))
    (fun os started H enc _ => lifted os started H enc)

end Go.Proofs.Ytlfmdplaoalahaa.reqBack
namespace Go.Proofs.Ytlfmdplaoalahaa
/-- The statement. -/
theorem reqBack_holds : Rows.ReqBackSaid := reqBack.over
#print axioms reqBack_holds
end Go.Proofs.Ytlfmdplaoalahaa
