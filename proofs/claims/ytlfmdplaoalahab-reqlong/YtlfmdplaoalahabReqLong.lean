/- No write of more than 65536 bytes is waited for. -/
import Derived.Test.YtlfmdplaoalahabRows
import Derived.Test.YtlfmdplaoalahabROpen
import Derived.WalkKit
import Derived.ProofKit
import Derived.OpenShut
import Derived.ShutString
import Derived.ChangeOld
import Derived.Below
namespace Go.Proofs.Ytlfmdplaoalahab.reqLong
open Go.ChangeShapes Go.WideShapes Go.ChangeAt Go.RowKit
open Go.ChangeMaps (open_string shut_string)
set_option linter.unusedVariables false

theorem own : ownKnob Try.prog.godebug = none := by kernel_rfl
theorem laidOut : laidOutB Try.prog = true := by kernel_rfl

/-- WHAT THE WALK IS TOLD OF A SLICE OF INTEGERS THAT CAME IN: it is nil; or it leads to a row of 'cap' cells, the numbers 'zs' (the first 'len' are its elements, the rest its spare room), each fitting its kind. -/
def IsRow (k : IntKind) (w : World) (a : Option Addr) (len cap : Nat) (zs : List Int) : Prop :=
  (a = none ∧ len = 0 ∧ cap = 0 ∧ zs = []) ∨
  ∃ x, a = some x ∧ len ≤ cap ∧ cap ≤ maxLen ∧ zs.length = cap ∧ (∀ i, i < zs.length → w.cell? (x.add i) = some (.int k (zs.getD i 0))) ∧ ∀ n ∈ zs, (Lit.int k n).wf = true

/-- A row of bytes of the call's own, as a block. -/
theorem own_blk {w : World} {base : Nat} {a : Option Addr} {n c : Nat} {L : List Int} (h : w.ownsRow base 5 1 (.slice a n c) n (u8s L)) (h0 : 0 < n) : ∃ (g : Nat) (R : List Value), a = some ⟨g, 0, none⟩ ∧ base ≤ g ∧ n ≤ c ∧ Blk w g (u8s L ++ R) 5 := by
  rcases h.2 with ⟨hv, hn⟩ | ⟨g, cap, cur, hv, hb, hg, hc, hcm, hsz, htake⟩
  · omega
  · cases hv
    refine ⟨g, cur.toList.drop (n * 1), rfl, hb, hc, ?_⟩
    rw [← htake, List.take_append_drop]
    unfold Blk
    simpa using hg
theorem blk_bin {w : World} {g : Nat} {L : List Int} {R : List Value} (h : Blk w g (u8s L ++ R) 5) (hf : ∀ z ∈ L, Fits8 z) (hm : L.length ≤ 100000) : BIn w (some ⟨g, 0, none⟩) L.length L := by
  refine ⟨rfl, by unfold maxLen; omega, hf, .inr ⟨g, 0, rfl, fun i hi => ?_⟩⟩
  rw [Nat.zero_add, h.cell i, List.getElem?_append_left (by rw [u8s_length]; exact hi)]
  simp [u8s, List.getD, hi]
theorem big4 (n : Int) : bigI 4 n = [n / 16777216 % 256, n / 65536 % 256, n / 256 % 256, n % 256] := by
  have e : bigI 4 n = [n / 2 ^ 24 % 256, n / 2 ^ 16 % 256, n / 2 ^ 8 % 256, n / 2 ^ 0 % 256] := rfl
  rw [e]
  have e1 : (2 : Int) ^ 24 = 16777216 := by decide
  have e2 : (2 : Int) ^ 16 = 65536 := by decide
  have e3 : (2 : Int) ^ 8 = 256 := by decide
  have e4 : (2 : Int) ^ 0 = 1 := by decide
  rw [e1, e2, e3, e4, Int.ediv_one]
theorem pack_head (r : Rq) (n : Int) : packL rqW (wrV r n) = packL [4, 2, 2, 8, 8] [rqMagic, r.fl, r.kd, r.ck, r.ofs] ++ bigI 4 n := by
  have := packL_snoc [4, 2, 2, 8, 8] [rqMagic, r.fl, r.kd, r.ck, r.ofs] 4 n rfl
  exact this
theorem set_four (H : List Int) (b0 b1 b2 b3 c0 c1 c2 c3 : Int) (R : List Value) (hH : H.length = 24) : (((((u8s (H ++ [b0, b1, b2, b3]) ++ R).set 24 (.int .u8 c0)).set 25 (.int .u8 c1)).set 26 (.int .u8 c2)).set 27 (.int .u8 c3)) = u8s (H ++ [c0, c1, c2, c3]) ++ R := by
  have e : u8s (H ++ [b0, b1, b2, b3]) ++ R = u8s H ++ ([.int .u8 b0, .int .u8 b1, .int .u8 b2, .int .u8 b3] ++ R) := by simp [u8s]
  have hl : (u8s H).length = 24 := by rw [u8s_length, hH]
  have hs : ∀ (B : List Value) (i : Nat) (v : Value), (u8s H ++ B).set (24 + i) v = u8s H ++ B.set i v := fun B i v => by
    rw [List.set_append, if_neg (by rw [hl]; omega), hl, Nat.add_sub_cancel_left]
  rw [e, show (24 : Nat) = 24 + 0 from rfl, hs, show (25 : Nat) = 24 + 1 from rfl, hs, show (26 : Nat) = 24 + 2 from rfl, hs, show (27 : Nat) = 24 + 3 from rfl, hs]
  simp [u8s]
/-- The example's request with these numbers, as Next tells it. -/
theorem long_cases {r : Rq} (h : r.Fits) (hk : r.kd = 1) {n : Int} (hn : Fits32 n) : (n = 0 → nxC (packL rqW (wrV r n)) = 28 ∧ nxE (packL rqW (wrV r n)) = 0) ∧ (65536 < n → nxC (packL rqW (wrV r n)) = 0 ∧ nxE (packL rqW (wrV r n)) = 82) ∧ (n ≠ 0 → ¬ 65536 < n → nxC (packL rqW (wrV r n)) = 0 ∧ nxE (packL rqW (wrV r n)) = 80) := by
  obtain ⟨p1, p2⟩ := head_parts h hn []
  rw [List.append_nil] at p1 p2
  have hl := pack28 r n
  have h28 : ¬ (packL rqW (wrV r n)).length < 28 := by rw [hl]; omega
  have k1 : (hR (packL rqW (wrV r n))).kd = 1 := by rw [p2]; exact hk
  have l1 : (hR (packL rqW (wrV r n))).ln = n := by rw [p2]
  unfold Fits32 at hn
  refine ⟨fun e => ?_, fun e => ?_, fun e1 e2 => ?_⟩
  · obtain ⟨_, _, r3, r4⟩ := nx_good h28 p1 k1 (by rw [l1]; omega) (by rw [l1, hl]; omega)
    rw [l1] at r3
    exact ⟨by rw [r3]; omega, r4⟩
  · obtain ⟨_, _, r3, r4⟩ := nx_long h28 p1 k1 (by rw [l1]; exact e)
    exact ⟨r3, r4⟩
  · obtain ⟨_, _, r3, r4⟩ := nx_more h28 p1 k1 (by rw [l1]; exact e2) (by rw [l1, hl]; omega)
    exact ⟨r3, r4⟩
set_option maxHeartbeats 2000000 in
theorem walk (r0 : Rq) (A0 : Option Addr) (k0 C0 : Nat) (D0 : List Int) (a1 : Int) (w : World) (w0 : r0.Fits ∧ DIn w A0 k0 C0 D0) (w1 : (Lit.int .u32 a1).wf = true) :
    Calls Try.prog 3 #[.agg (reqL r0 A0 k0 C0).toArray, .int .u32 a1] w fun e w' => e = .returned (.bool true) ∧ Below w.heap.size w w' := by
  obtain ⟨hr, hD⟩ := w0
  have b1 := bounds_u32 w1
  obtain ⟨q, hq⟩ : ∃ q, q = w.heap.size := ⟨_, rfl⟩
  have b0 : Blk (w.alloc (.cells (reqL r0 A0 k0 C0).toArray 27)) q (reqL r0 A0 k0 C0) 27 := Blk.new' hq.symm rfl
  have bw : Below q w (w.alloc (.cells (reqL r0 A0 k0 C0).toArray 27)) := (Below.refl _ _).alloc (by omega) _
  have hqw : q ≤ w.heap.size := by omega
  obtain ⟨N, hN⟩ : ∃ N : Int, a1 % 1048576 = N := ⟨_, rfl⟩
  have hN0 : 0 ≤ N := by omega
  have hN1 : N ≤ 1048575 := by omega
  obtain ⟨r, er⟩ : ∃ r : Rq, r = ⟨r0.fl, 1, r0.ck, r0.ofs, r0.ln⟩ := ⟨_, rfl⟩
  have hrf : r.Fits := by rw [er]; exact ⟨hr.1, (by show Fits16 1; unfold Fits16; omega), hr.2.2.1, hr.2.2.2.1, hr.2.2.2.2⟩
  have hrk : r.kd = 1 := by rw [er]
  have H : Hid (r.Fits ∧ r.kd = 1 ∧ r = ⟨r0.fl, 1, r0.ck, r0.ofs, r0.ln⟩ ∧ q ≤ w.heap.size ∧ q = w.heap.size ∧ 0 ≤ N ∧ N ≤ 1048575) := ⟨hrf, hrk, er, hqw, hq, hN0, hN1⟩
  rw [← hq]
  clear hr hD hrf hrk er hqw w1
  go_enter Try.func3, Try.ntmps3
  go_upto_region 1 with fail
  rw [← hq]
  generalize hW : World.alloc w _ = W at b0 bw ⊢
  have HW : Hid (Blk W q (reqL r0 A0 k0 C0) 27 ∧ Below q w W) := ⟨b0, bw⟩
  clear hW hq b0 bw
  go_wp2_with fail
  refine (rknown_any W).mono ?_
  rintro e W1 ⟨rfl, b1'⟩
  have H1 : Hid (Blk W1 q (reqL r0 A0 k0 C0) 27 ∧ Below q w W1) := ⟨HW.out.1.below b1' HW.out.1.lt, below_via HW.out.2 H.out.2.2.2.1 b1'⟩
  clear b1'
  have c1 : W1.cell? ⟨q, 1, none⟩ = some (.int .u16 r0.kd) := H1.out.1.cell 1
  have c5 : W1.cell? ⟨q, 5, none⟩ = some (.slice A0 k0 C0) := H1.out.1.cell 5
  have z1 := H1.out.1.frozen 1
  have z5 := H1.out.1.frozen 5
  go_upto_region 5 with fail
  have s2 : Blk ((W1.setCell ⟨q, 1, none⟩ (.int .u16 1)).setCell ⟨q, 5, none⟩ (.slice none 0 0)) q (reqL r none 0 0) 27 := by rw [H.out.2.2.1]; exact (H1.out.1.set 1 _).set 5 _
  have v2 : Below q w ((W1.setCell ⟨q, 1, none⟩ (.int .u16 1)).setCell ⟨q, 5, none⟩ (.slice none 0 0)) := (H1.out.2.setCell (Nat.le_refl _) _).setCell (Nat.le_refl _) _
  generalize hW2 : World.setCell (World.setCell W1 _ _) _ _ = W2 at s2 v2 ⊢
  have H2 : Hid (Blk W2 q (reqL r none 0 0) 27 ∧ Below q w W2) := ⟨s2, v2⟩
  clear s2 v2 hW2 c1 c5 z1 z5
  obtain ⟨c0, c1, c2, c3, c4, c5⟩ := six_cells H2.out.1
  go_wp2_with fail
  refine (write_of r none 0 0 [] W2 H.out.1 ⟨bin_none _, Nat.le_refl _, fun _ => ⟨rfl, rfl⟩⟩ (by omega)).mono ?_
  have eY : wrL r [] = packL rqW (wrV r 0) := by unfold wrL wrN; rw [if_pos H.out.2.1, if_pos H.out.2.1, List.append_nil]; rfl
  rw [eY, pack_head, big4]
  rintro e W3 ⟨B, m, E, rfl, o3, b3⟩
  obtain ⟨P, hP⟩ : ∃ P, P = packL [4, 2, 2, 8, 8] [rqMagic, r.fl, r.kd, r.ck, r.ofs] := ⟨_, rfl⟩
  have hPl : P.length = 24 := by rw [hP, packL_length _ _ (by simp)]; rfl
  rw [← hP] at o3
  have hm : m = 28 := by have := o3.1; rw [u8s_length, List.length_append, hPl] at this; simp at this; omega
  subst hm
  obtain ⟨g, R, rfl, hg, hE, bk⟩ := own_blk o3 (by omega)
  have H3 : Hid (Below q w W3 ∧ q ≤ g ∧ Blk W3 g (u8s (P ++ [0 / 16777216 % 256, 0 / 65536 % 256, 0 / 256 % 256, 0 % 256]) ++ R) 5 ∧ 28 ≤ E ∧ P.length = 24 ∧ P = packL [4, 2, 2, 8, 8] [rqMagic, r.fl, r.kd, r.ck, r.ofs]) := ⟨below_via H2.out.2 H.out.2.2.2.1 b3, by have := H2.out.1.lt; omega, bk, hE, hPl, hP⟩
  have f24 : W3.cell? ⟨g, 24, none⟩ = some (.int .u8 0) := by rw [bk.cell 24, List.getElem?_append_left (by rw [u8s_length, List.length_append, hPl]; decide)]; simp [u8s, hPl]
  have f25 : W3.cell? ⟨g, 25, none⟩ = some (.int .u8 0) := by rw [bk.cell 25, List.getElem?_append_left (by rw [u8s_length, List.length_append, hPl]; decide)]; simp [u8s, hPl]
  have f26 : W3.cell? ⟨g, 26, none⟩ = some (.int .u8 0) := by rw [bk.cell 26, List.getElem?_append_left (by rw [u8s_length, List.length_append, hPl]; decide)]; simp [u8s, hPl]
  have f27 : W3.cell? ⟨g, 27, none⟩ = some (.int .u8 0) := by rw [bk.cell 27, List.getElem?_append_left (by rw [u8s_length, List.length_append, hPl]; decide)]; simp [u8s, hPl]
  have y24 := bk.frozen 24
  have y25 := bk.frozen 25
  have y26 := bk.frozen 26
  have y27 := bk.frozen 27
  clear o3 b3 hP hPl hg hE bk eY c0 c1 c2 c3 c4 c5
  go_upto_region 11 with fail
  have k4 := (((H3.out.2.2.1.set 24 (.int .u8 (N / 16777216))).set 25 (.int .u8 (N / 65536))).set 26 (.int .u8 (N / 256 % 256))).set 27 (.int .u8 (N % 256))
  rw [set_four P _ _ _ _ _ _ _ _ R H3.out.2.2.2.2.1] at k4
  have eL : P ++ [N / 16777216, N / 65536, N / 256 % 256, N % 256] = packL rqW (wrV r N) := by
    rw [pack_head, big4, ← H3.out.2.2.2.2.2, show N / 16777216 % 256 = N / 16777216 by omega, show N / 65536 % 256 = N / 65536 by omega]
  rw [eL] at k4
  have v4 : Below q w ((((W3.setCell ⟨g, 24, none⟩ (.int .u8 (N / 16777216))).setCell ⟨g, 25, none⟩ (.int .u8 (N / 65536))).setCell ⟨g, 26, none⟩ (.int .u8 (N / 256 % 256))).setCell ⟨g, 27, none⟩ (.int .u8 (N % 256))) := (((H3.out.1.setCell (by show q ≤ g; exact H3.out.2.1) _).setCell (by show q ≤ g; exact H3.out.2.1) _).setCell (by show q ≤ g; exact H3.out.2.1) _).setCell (by show q ≤ g; exact H3.out.2.1) _
  generalize hW4 : World.setCell (World.setCell (World.setCell (World.setCell W3 _ _) _ _) _ _) _ _ = W4 at k4 v4 ⊢
  have l4 := pack28 r N
  have d4 := blk_bin k4 (packL_fits _ _) (by rw [l4]; omega)
  rw [l4] at d4
  have H4 : Hid (BIn W4 (some ⟨g, 0, none⟩) 28 (packL rqW (wrV r N)) ∧ Below q w W4) := ⟨d4, v4⟩
  have hc := long_cases H.out.1 H.out.2.1 (n := N) ⟨by omega, by omega⟩
  clear k4 v4 l4 d4 hW4 eL f24 f25 f26 f27 y24 y25 y26 y27
  obtain ⟨NC, hNC⟩ : ∃ K, K = nxC (packL rqW (wrV r N)) := ⟨_, rfl⟩
  obtain ⟨NE, hNE⟩ : ∃ K, K = nxE (packL rqW (wrV r N)) := ⟨_, rfl⟩
  obtain ⟨NR, hNR⟩ : ∃ K, K = nxR (packL rqW (wrV r N)) := ⟨_, rfl⟩
  rw [← hNC, ← hNE] at hc
  have HC : Hid (NC = nxC (packL rqW (wrV r N)) ∧ NE = nxE (packL rqW (wrV r N)) ∧ NR = nxR (packL rqW (wrV r N)) ∧ (N = 0 → NC = 28 ∧ NE = 0) ∧ (65536 < N → NC = 0 ∧ NE = 82) ∧ (N ≠ 0 → ¬ 65536 < N → NC = 0 ∧ NE = 80)) := ⟨hNC, hNE, hNR, hc⟩
  clear hNC hNE hNR hc
  go_wp2_with fail
  refine (next_of (some ⟨g, 0, none⟩) 28 E (packL rqW (wrV r N)) W4 H4.out.1 (fun h => by cases h) H3.out.2.2.2.1 (by omega)).mono ?_
  rw [← HC.out.1, ← HC.out.2.1, ← HC.out.2.2.1]
  rintro e W5 ⟨B5, k5, E5, rfl, -, -, b5⟩
  have H5 : Hid (Below q w W5) := below_via H4.out.2 H.out.2.2.2.1 b5
  clear b5
  go_upto_region 12 with (refine wpList_store_req rfl (.tmp 7) (.tmp 40) rfl W5.heap.size NR B5 k5 E5 rfl rfl ?hT ?_; (case hT => exact req_there _); intro W6 hU; have H6 : Hid (Below q w W6) := (below_via H5.out H.out.2.2.2.1 (req_kept hU).2); clear hU)
  by_cases e0 : N = 0
  · obtain ⟨x1, x2⟩ := HC.out.2.2.2.1 e0
    have e1 : (N == 0) = true := by rw [e0]; rfl
    have y1 : (NE == 0) = true := by rw [x2]; rfl
    have y2 : (NC == 28) = true := by rw [x1]; rfl
    clear e0 x1 x2
    go_wp2
    go_ret
    exact ⟨rfl, H6.out⟩
  · have e1 : (N == 0) = false := by simp [e0]
    by_cases e2 : 65536 < N
    · obtain ⟨x1, x2⟩ := HC.out.2.2.2.2.1 e2
      have y1 : (NE == 82) = true := by rw [x2]; rfl
      have y2 : (NC == 0) = true := by rw [x1]; rfl
      clear e0 x1 x2
      go_wp2
      go_ret
      exact ⟨rfl, H6.out⟩
    · obtain ⟨x1, x2⟩ := HC.out.2.2.2.2.2 e0 (by omega)
      have y1 : (NE == 80) = true := by rw [x2]; rfl
      have y2 : (NC == 0) = true := by rw [x1]; rfl
      clear e0 x1 x2
      go_wp2
      go_ret
      exact ⟨rfl, H6.out⟩

set_option maxRecDepth 100000 in
theorem lifted (os : Os) (started : os.Started) (H : Type) (enc : TypeId × Value → H) :
    ReturnsInHanded {} Try.checked os 3 .any (Rows.reqLongSpec.pre6 enc Try.prog Try.f3 Rows.reqLongRow.domain false) (Rows.reqLongSpec.post enc Try.prog Try.f3 false true false false) := by
  refine returnsInHanded_of_change (C := Try.checked) own started (by kernel_rfl) Try.func3
    (ChangeSpec.witness6 (enc := enc) (C := Try.checked) false ⟨#[], #[.agg #[.int .u16 0, .int .u16 0, .int .u64 0, .int .u64 0, .int .u32 0, .slice none 0 0], .int .u32 0], []⟩ 8 (by kernel_rfl) (by kernel_rfl) (by kernel_rfl) (by kernel_rfl)) ?_
  intro W base args ds gs before hval0 hW hcnd _
  have hval : ∀ (j : Nat) t v, Try.f3.params[j]? = some t → args[j]? = some v → Value.okWide Try.prog W .any base t v := hval0
  have hW' := hW
  obtain ⟨p, q, hA0, hV, rfl, hfz, hnd⟩ := hW
  have hA : DataW.TrodAll enc Try.prog W 0 (fun _ => true) true Try.f3.params.toList args.toList ds p := hA0
  rw [Try.params3] at hA hval
  obtain ⟨v0, vs0, d0, ds0, p0, q0, hargs, rfl, rfl, h0, r0⟩ := trodAll_cons hA
  obtain ⟨v1, vs1, d1, ds1, p1, q1, rfl, rfl, rfl, h1, r1⟩ := trodAll_cons r0
  obtain ⟨rfl, rfl, rfl⟩ := trodAll_nil r1
  obtain rfl : args = #[v0, v1] := by cases args; simp_all
  obtain ⟨rfl, rfl⟩ := trodVars_none hV
  have kk0 := h0
  have lt0 : ∀ x ∈ p0, x.block < W.heap.size := by obtain ⟨m, hm⟩ := kk0; exact DataW.trod_lt m _ _ _ hm
  obtain ⟨rq0, AA0, kq0, CC0, DD0, rfl, w0⟩ := open_request (hval 0 27 v0 rfl rfl) h0
  obtain ⟨a1, rfl, rfl, rfl, w1⟩ := open_int Try.underlying24 (hval 1 24 v1 rfl rfl) h1
  clear hA0 hval0
  refine (walk rq0 AA0 kq0 CC0 DD0 a1 W w0 w1).mono fun e W' ⟨he, bel⟩ => ?_
  subst he
  exact ⟨_, rfl, _, _, _, [], _, [], hW', trodAll_mk1 (shut_bool Try.underlying4 _), (trodAll_cons_mk (Below.trod laidOut (by kernel_rfl) (of_decide_eq_true (by kernel_rfl)) kk0 bel lt0) (trodAll_cons_mk (shut_int Try.underlying24 w1) trodAll_mk0)), rfl, bel.frame _, fun h => by cases h⟩

theorem over : Rows.reqLongRow.holds Try.pinned (OpenSpec.ofChange Rows.reqLongSpec) :=
  OpenClaim.holds_of_wide 3 Try.f3 rfl rfl rfl rfl rfl rfl rfl ⟨rfl, rfl, rfl, rfl, rfl⟩ rfl rfl rfl rfl rfl (by kernel_rfl) Try.func3 (by kernel_rfl)
    (of_decide_eq_true (by kernel_rfl)) (by unfold Func.isWrapper; first | (rw [if_pos (by decide +kernel)]; kernel_rfl) | (rw [if_neg (by decide +kernel)]; exact ⟨rfl, rfl⟩))
    (fun os started H enc _ => lifted os started H enc)

end Go.Proofs.Ytlfmdplaoalahab.reqLong
namespace Go.Proofs.Ytlfmdplaoalahab
/-- The statement. -/
theorem reqLong_holds : Rows.ReqLongSaid := reqLong.over
#print axioms reqLong_holds
end Go.Proofs.Ytlfmdplaoalahab
