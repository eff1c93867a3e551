/- What one call of appendNumber, bodyOf, number and tokenOf does. -/
import Derived.Test.YtpliokkmiijieaaDoorPMath
import Derived.Test.YtpliokkmiijieaaDoorApp
import Derived.Test.YtpliokkmiijieaaDoorMKnown
import Derived.OwnWalk
import Derived.StillTailTactics
import Derived.Lib.EndianBits
namespace Go.Proofs.YtpliokkmiijieaaDoor
open Go.RowKit
set_option linter.unusedVariables false

theorem big_take (k : Nat) (v : Int) {j : Nat} (hj : j < k) : (bigI k v).take j ++ [v / 2 ^ (8 * (k - 1 - j)) % 256] = (bigI k v).take (j + 1) := by
  have hl : j < (bigI k v).length := by rw [bigI_length]; exact hj
  rw [List.take_succ_eq_append_getElem hl]
  simp [bigI]
theorem byte_one (x : Int) : ∀ z ∈ [x % 256], Fits8 z := by
  intro z hz
  simp only [List.mem_cons, List.not_mem_nil, or_false] at hz
  subst hz
  unfold Fits8
  omega

set_option maxHeartbeats 1000000 in
theorem appendNumber_of (a : Option Addr) (n c : Nat) (xs : List Int) (v : Int) (k : Nat) (base : Nat) (w : World) (ho : w.ownsRow base 5 1 (.slice a n c) n (u8s xs)) (hb : base ≤ w.heap.size) (v0 : 0 ≤ v) (v1 : v < 18446744073709551616) (hk : k ≤ 8) (hn : n ≤ 1000) :
    Calls Tryd.prog 37 #[.slice a n c, .int .u64 v, .int .i64 k] w fun e w' => ∃ a' c', e = .returned (.slice a' (n + k) c') ∧ w'.ownsRow base 5 1 (.slice a' (n + k) c') (n + k) (u8s (xs ++ bigI k v)) ∧ Below base w w' := by
  have H : Hid (w.ownsRow base 5 1 (.slice a n c) n (u8s xs) ∧ base ≤ w.heap.size) := ⟨ho, hb⟩
  clear ho hb
  go_enter Tryd.func37, Tryd.ntmps37
  go_wp2
  go_loopw [0, 9] (fun s i wr => ∃ (j : Nat) (a' : Option Addr) (c' : Nat), j ≤ k ∧ i = .int .i64 j ∧ s = .slice a' (n + j : Nat) c' ∧ wr.ownsRow base 5 1 (.slice a' (n + j) c') (n + j) (u8s (xs ++ (bigI k v).take j)) ∧ Below base w wr ∧ base ≤ wr.heap.size)
    (fun _ i _ => k - (intOf i).toNat)
  case atStart => exact ⟨0, a, c, by omega, rfl, rfl, by simpa using H.out.1, Below.refl _ _, H.out.2⟩
  case round =>
    obtain ⟨j, a', c', hj, rfl, rfl, ow, bl, hs⟩ := hrel
    have HK : Hid (wr.ownsRow base 5 1 (.slice a' (n + j) c') (n + j) (u8s (xs ++ (bigI k v).take j)) ∧ Below base w wr ∧ base ≤ wr.heap.size) := ⟨ow, bl, hs⟩
    clear ow bl hs
    by_cases hlt : j < k
    · have hlt' : (j : Int) < k := by omega
      go_wp2_with (at_builtin; refine wpList_append_bin rfl (.tmp 12) (.tmp 21) rfl base a' (n + j) c' _ rfl (HK.out.1.alloc _) (some ⟨wr.heap.size, 0, none⟩) 1 1 [v / 2 ^ (8 * (k - 1 - j)) % 256] rfl (new_bin rfl rfl rfl (byte_one _) (by unfold maxLen; omega)) (fun h => by cases h) (by omega) (by have := HK.out.2.2; simp; omega) ?_; intro a2 c2 w2 ow2 bl2)
      go_roundw
      case rel =>
        have hbl : Below base w w2 := (HK.out.2.1.alloc HK.out.2.2 _).trans bl2
        refine ⟨j + 1, a2, c2, by omega, by go_num, by rfl, ?_, hbl, by have := bl2.size; have := HK.out.2.2; simp at *; omega⟩
        rw [List.append_assoc, big_take k v hlt] at ow2
        exact ow2
      case measure => simp [intOf]; omega
    · have hge : (k : Int) ≤ j := by omega
      have hjk : j = k := by omega
      subst hjk
      go_wp2
      go_ret
      refine ⟨a', c', rfl, ?_, HK.out.2.1⟩
      have := HK.out.1
      rwa [List.take_of_length_le (by rw [bigI_length]; exact Nat.le_refl _)] at this

theorem cell_new4 (w : World) (a b c d : Value) (t : TypeId) (fr : Nat × Nat) : (w.alloc (.cells #[a, b, c, d] t fr)).cell? ⟨w.heap.size, 0, none⟩ = some a ∧ (w.alloc (.cells #[a, b, c, d] t fr)).cell? ⟨w.heap.size, 1, none⟩ = some b ∧ (w.alloc (.cells #[a, b, c, d] t fr)).cell? ⟨w.heap.size, 2, none⟩ = some c ∧ (w.alloc (.cells #[a, b, c, d] t fr)).cell? ⟨w.heap.size, 3, none⟩ = some d := by
  refine ⟨?_, ?_, ?_, ?_⟩ <;> rw [World.cell?_alloc_mark] <;> rfl
theorem cell_keep {w w' : World} {B b o : Nat} {v : Value} (h : w.cell? ⟨b, o, none⟩ = some v) (hb : Below B w w') (hlt : b < B) : w'.cell? ⟨b, o, none⟩ = some v := by rw [hb.cell hlt]; exact h
theorem own_lower {w : World} {base base' : Nat} {v : Value} {n : Nat} {zs : List Value} (h : w.ownsRow base 5 1 v n zs) (hb : base' ≤ base) : w.ownsRow base' 5 1 v n zs := by
  refine ⟨h.1, ?_⟩
  rcases h.2 with h2 | ⟨g, cap, cur, hv, hbg, hr⟩
  · exact .inl h2
  · exact .inr ⟨g, cap, cur, hv, Nat.le_trans hb hbg, hr⟩
theorem own_cap1 {w : World} {base : Nat} {a : Option Addr} {n c : Nat} {zs : List Value} (h : w.ownsRow base 5 1 (.slice a n c) n zs) : n ≤ c := by
  rcases h.2 with ⟨hv, hn⟩ | ⟨g, cap, cur, hv, hb, hg, hc, hcm, hsz, htake⟩
  · omega
  · cases hv; omega

set_option maxHeartbeats 1000000 in
theorem bodyOf_of (t : Tok) (w : World) (ht : t.Fits) :
    Calls Tryd.prog 23 #[tokV t] w fun e w' => ∃ a c, e = .returned (.slice a 18 c) ∧ w'.ownsRow w.heap.size 5 1 (.slice a 18 c) 18 (u8s (bodyI t)) ∧ Below w.heap.size w w' := by
  obtain ⟨i0, hi0, hz0, hz1, hz2⟩ := info_parts Tryd.zero_u8
  obtain ⟨q, hq⟩ : ∃ q, q = w.heap.size := ⟨_, rfl⟩
  have H : Hid (q = w.heap.size ∧ t.Fits ∧ Tryd.prog.info? 5 = some i0 ∧ i0.zero = some (.int .u8 0) ∧ i0.size = 1 ∧ i0.bytes = 1) := ⟨hq, ht, hi0, hz0, hz1, hz2⟩
  rw [← hq]
  clear ht hi0 hz0 hz1 hz2
  obtain ⟨te, se, ro, sz⟩ := t
  unfold tokV
  dsimp only
  obtain ⟨t0, t1⟩ := H.out.2.1.1
  obtain ⟨s0, s1⟩ := H.out.2.1.2.1
  obtain ⟨z0, z1⟩ := H.out.2.1.2.2
  dsimp only at t0 t1 s0 s1 z0 z1
  go_enter Tryd.func23, Tryd.ntmps23
  go_upto_region 2 with (at_make; refine wpList_make_own _ rfl _ _ 22 rfl (q + 1) 5 i0 (.int .u8 0) 1 Tryd.underlying22 H.out.2.2.1 H.out.2.2.2.1 H.out.2.2.2.2.1 .i64 .i64 _ 50 rfl rfl rfl (by rw [H.out.2.2.2.2.2]; omega) (by unfold maxLen; omega) (by rw [H.out.1]; simp) ?_; intro w1 ow1 gr1)
  have pv : w1.ownsRow (q + 1) 5 1 (.slice (some ⟨q + 1, 0, none⟩) 0 50) 0 (u8s []) ∧ Below (q + 1) (w.alloc (.cells #[.int .u32 te, .int .u32 se, .bool ro, .int .u64 sz] 26)) w1 ∧ q + 1 ≤ w1.heap.size := by
    have hs : (w.alloc (.cells #[.int .u32 te, .int .u32 se, .bool ro, .int .u64 sz] 26)).heap.size = q + 1 := by rw [H.out.1]; simp
    rw [hs] at ow1
    have bl : Below (q + 1) (w.alloc (.cells #[.int .u32 te, .int .u32 se, .bool ro, .int .u64 sz] 26)) w1 := (Below.refl _ _).grown gr1 (by rw [hs]; exact Nat.le_refl _) (fun g hg => by cases hg)
    exact ⟨ow1, bl, by have := bl.size; omega⟩
  obtain ⟨c0, c1, c2, c3⟩ := cell_new4 w (.int .u32 te) (.int .u32 se) (.bool ro) (.int .u64 sz) 26 (0, 0)
  rw [← hq]
  rw [← hq] at c0 c1 c2 c3
  clear ow1 gr1 hq
  generalize hV : World.alloc w _ = V at pv
  rw [hV] at c0 c1 c2 c3
  have HV : Hid (Below q w V) := by
    show Below q w V
    rw [← hV]
    exact (Below.refl _ _).alloc (by rw [H.out.1]; exact Nat.le_refl _) _
  clear hV
  obtain ⟨p1, p2, p3⟩ := pv
  have HC : Hid (w1.cell? ⟨q, 0, none⟩ = some (.int .u32 te) ∧ w1.cell? ⟨q, 1, none⟩ = some (.int .u32 se) ∧ w1.cell? ⟨q, 2, none⟩ = some (.bool ro) ∧ w1.cell? ⟨q, 3, none⟩ = some (.int .u64 sz)) :=
    ⟨cell_keep c0 p2 (by omega), cell_keep c1 p2 (by omega), cell_keep c2 p2 (by omega), cell_keep c3 p2 (by omega)⟩
  have H1 : Hid (w1.ownsRow (q + 1) 5 1 (.slice (some ⟨q + 1, 0, none⟩) 0 50) 0 (u8s []) ∧ Below (q + 1) V w1 ∧ q + 1 ≤ w1.heap.size) := ⟨p1, p2, p3⟩
  clear p1 p2 p3 c0 c1 c2 c3
  go_upto_region 3 with (at_builtin; refine wpList_append_bin rfl (.tmp 5) (.tmp 6) rfl (q + 1) (some ⟨q + 1, 0, none⟩) 0 50 [] rfl (H1.out.1.alloc _) (some ⟨w1.heap.size, 0, none⟩) 1 1 [1] rfl (new_bin rfl rfl rfl (by simp [Fits8]) (by unfold maxLen; omega)) (fun h => by cases h) (by omega) (by have := H1.out.2.2; simp; omega) ?_; intro a2 d2 w2 ow2 bl2)
  have H2 : Hid (w2.ownsRow (q + 1) 5 1 (.slice a2 1 d2) 1 (u8s [1]) ∧ Below (q + 1) V w2 ∧ q + 1 ≤ w2.heap.size ∧ w2.cell? ⟨q, 0, none⟩ = some (.int .u32 te)) := by
    have b : Below (q + 1) w1 w2 := ((Below.refl _ _).alloc H1.out.2.2 _).trans bl2
    exact ⟨ow2, H1.out.2.1.trans b, by have := b.size; have := H1.out.2.2; omega, cell_keep HC.out.1 b (by omega)⟩
  have HC2 : Hid (w2.cell? ⟨q, 1, none⟩ = some (.int .u32 se) ∧ w2.cell? ⟨q, 2, none⟩ = some (.bool ro) ∧ w2.cell? ⟨q, 3, none⟩ = some (.int .u64 sz)) := by
    have b : Below (q + 1) w1 w2 := ((Below.refl _ _).alloc H1.out.2.2 _).trans bl2
    exact ⟨cell_keep HC.out.2.1 b (by omega), cell_keep HC.out.2.2.1 b (by omega), cell_keep HC.out.2.2.2 b (by omega)⟩
  have k2 := H2.out.2.2.2
  clear ow2 bl2 HC H1
  go_upto_region 4 with (go_at_call 37; refine (appendNumber_of a2 1 d2 [1] te 4 (q + 1) w2 H2.out.1 H2.out.2.2.1 (by omega) (by omega) (by omega) (by omega)).mono ?_; rintro e w3 ⟨a3, d3, rfl, ow3, bl3⟩)
  have H3 : Hid (w3.ownsRow (q + 1) 5 1 (.slice a3 5 d3) 5 (u8s ([1] ++ bigI 4 te)) ∧ Below (q + 1) V w3 ∧ q + 1 ≤ w3.heap.size ∧ w3.cell? ⟨q, 2, none⟩ = some (.bool ro) ∧ w3.cell? ⟨q, 3, none⟩ = some (.int .u64 sz)) :=
    ⟨ow3, H2.out.2.1.trans bl3, by have := bl3.size; have := H2.out.2.2.1; omega, cell_keep HC2.out.2.1 bl3 (by omega), cell_keep HC2.out.2.2 bl3 (by omega)⟩
  have k3 := cell_keep HC2.out.1 bl3 (by omega)
  clear ow3 bl3 HC2 H2 k2
  go_upto_region 5 with (go_at_call 37; refine (appendNumber_of a3 5 d3 _ se 4 (q + 1) w3 H3.out.1 H3.out.2.2.1 (by omega) (by omega) (by omega) (by omega)).mono ?_; rintro e w4 ⟨a4, d4, rfl, ow4, bl4⟩)
  have H4 : Hid (w4.ownsRow (q + 1) 5 1 (.slice a4 9 d4) 9 (u8s ([1] ++ bigI 4 te ++ bigI 4 se)) ∧ Below (q + 1) V w4 ∧ q + 1 ≤ w4.heap.size ∧ w4.cell? ⟨q, 2, none⟩ = some (.bool ro)) :=
    ⟨ow4, H3.out.2.1.trans bl4, by have := bl4.size; have := H3.out.2.2.1; omega, cell_keep H3.out.2.2.2.1 bl4 (by omega)⟩
  have k4 := cell_keep H3.out.2.2.2.2 bl4 (by omega)
  clear ow4 bl4 H3 k3
  go_upto_region 6 with (go_at_call 37; refine (appendNumber_of a4 9 d4 _ sz 8 (q + 1) w4 H4.out.1 H4.out.2.2.1 (by omega) (by omega) (by omega) (by omega)).mono ?_; rintro e w5 ⟨a5, d5, rfl, ow5, bl5⟩)
  have H5 : Hid (w5.ownsRow (q + 1) 5 1 (.slice a5 17 d5) 17 (u8s ([1] ++ bigI 4 te ++ bigI 4 se ++ bigI 8 sz)) ∧ Below (q + 1) V w5 ∧ q + 1 ≤ w5.heap.size) :=
    ⟨ow5, H4.out.2.1.trans bl5, by have := bl5.size; have := H4.out.2.2.1; omega⟩
  have k5 := cell_keep H4.out.2.2.2 bl5 (by omega)
  clear ow5 bl5 H4 k4
  have fin : ∀ (x : Int) (a6 : Option Addr) (d6 : Nat) (w6 : World), x = roI ro → w6.ownsRow (q + 1) 5 1 (.slice a6 (17 + 1) d6) (17 + 1) (u8s (([1] ++ bigI 4 te ++ bigI 4 se ++ bigI 8 sz) ++ [x])) → Below (q + 1) (w5.alloc (.cells #[.int .u8 x] 5)) w6 →
      ∃ a c, Ending.returned (.slice a6 18 d6) = .returned (.slice a 18 c) ∧ w6.ownsRow q 5 1 (.slice a 18 c) 18 (u8s (bodyI ⟨te, se, ro, sz⟩)) ∧ Below q w w6 := by
    intro x a6 d6 w6 hx ow6 bl6
    subst hx
    refine ⟨a6, d6, rfl, own_lower ow6 (by omega), ?_⟩
    exact HV.out.trans ((H5.out.2.1.mono (by omega)).trans (((Below.refl _ _).alloc (by have := H5.out.2.2; omega) _).trans (bl6.mono (by omega))))
  cases ro with
  | true =>
    go_wp2_with (at_builtin; refine wpList_append_bin rfl (.tmp 24) (.tmp 25) rfl (q + 1) a5 17 d5 _ rfl (H5.out.1.alloc _) (some ⟨w5.heap.size, 0, none⟩) 1 1 [1] rfl (new_bin rfl rfl rfl (by simp [Fits8]) (by unfold maxLen; omega)) (fun h => by cases h) (by omega) (by have := H5.out.2.2; simp; omega) ?_; intro a6 d6 w6 ow6 bl6)
    go_ret
    exact fin 1 a6 d6 w6 rfl ow6 bl6
  | false =>
    go_wp2_with (at_builtin; refine wpList_append_bin rfl (.tmp 27) (.tmp 28) rfl (q + 1) a5 17 d5 _ rfl (H5.out.1.alloc _) (some ⟨w5.heap.size, 0, none⟩) 1 1 [0] rfl (new_bin rfl rfl rfl (by simp [Fits8]) (by unfold maxLen; omega)) (fun h => by cases h) (by omega) (by have := H5.out.2.2; simp; omega) ?_; intro a6 d6 w6 ow6 bl6)
    go_ret
    exact fin 0 a6 d6 w6 rfl ow6 bl6

theorem p256 : ∀ j : Nat, j < 8 → (256 : Int) ^ j ≤ 72057594037927936 := by decide
theorem shl8 {n x : Int} (hn : 0 ≤ n) (h1 : n < 72057594037927936) (hx : Fits8 x) : bits .or .u64 (n * 256) x = n * 256 + x := by
  have hc : bits .or .u64 (n * 256) x = bits .or .u64 x (n * 256) := by
    show IntKind.u64.wrap ((BitVec.ofInt 64 (n * 256) ||| BitVec.ofInt 64 x).toNat : Int) = IntKind.u64.wrap ((BitVec.ofInt 64 x ||| BitVec.ofInt 64 (n * 256)).toNat : Int)
    rw [BitVec.or_comm]
  rw [hc, u64_or8 _ _ hx.1 hx.2 (by omega) (by omega) (by omega), Int.add_comm]
set_option maxHeartbeats 1000000 in
theorem number_of (a : Option Addr) (n c : Nat) (bs : List Int) (w : World) (h : BIn w a n bs) (hn : n ≤ 8) :
    Calls Tryd.prog 49 #[.slice a n c] w fun e w' => e = .returned (.int .u64 (numI bs)) ∧ w' = w := by
  have H : Hid (BIn w a n bs) := h
  clear h
  go_enter Tryd.func49, Tryd.ntmps49
  go_wp2
  go_loopw [3, 8] (fun v i wr => ∃ j : Nat, j ≤ n ∧ i = .int .i64 j ∧ v = .int .u64 (numI (bs.take j)) ∧ wr = w)
    (fun _ i _ => n - (intOf i).toNat)
  case atStart => exact ⟨0, by omega, rfl, rfl, rfl⟩
  case round =>
    obtain ⟨j, hj, rfl, rfl, rfl⟩ := hrel
    by_cases hlt : j < n
    · have hlt' : (j : Int) < n := by omega
      obtain ⟨b, off, ha, hcell⟩ := H.out.2.2.2.resolve_left (by omega)
      subst ha
      have hc := hcell j hlt
      clear hcell
      have hx : Fits8 (bs.getD j 0) := byte_fits H.out.2.2.1 j
      obtain ⟨x, ex⟩ : ∃ x, x = bs.getD j 0 := ⟨_, rfl⟩
      rw [← ex] at hc hx
      obtain ⟨r0, r1, _⟩ := numI_range j (bs.take j) (by rw [List.length_take, H.out.1]; omega) (fun z hz => H.out.2.2.1 z (List.mem_of_mem_take hz))
      have r2 : numI (bs.take j) < 72057594037927936 := by
        have := p256 j (by omega)
        omega
      have hnx : numI (bs.take j) * 256 + x = numI (bs.take (j + 1)) := by
        have hl : j < bs.length := by rw [H.out.1]; exact hlt
        rw [List.take_succ_eq_append_getElem hl, numI_snoc, ex]
        simp [List.getD, hl]
      obtain ⟨N, eN⟩ : ∃ N, N = numI (bs.take j) := ⟨_, rfl⟩
      rw [← eN] at r0 r2 hnx ⊢
      have hor := shl8 r0 r2 hx
      have HE : Hid (N * 256 + x = numI (bs.take (j + 1))) := hnx
      clear hnx eN ex r1
      obtain ⟨hx0, hx1⟩ := hx
      go_wp2
      go_roundw
      case rel => exact ⟨j + 1, by omega, by go_num, by rw [← HE.out], trivial⟩
      case measure => simp [intOf]; omega
    · have hge : (n : Int) ≤ j := by omega
      have e : bs.take j = bs := List.take_of_length_le (by rw [H.out.1]; omega)
      rw [e]
      go_wp2
      go_ret
      exact ⟨rfl, rfl⟩

/-- A part of a list that lies in the world. -/
theorem BIn.part {w : World} {b off len : Nat} {zs : List Int} (h : BIn w (some ⟨b, off, none⟩) len zs) (i k : Nat) (hik : i + k ≤ len) : BIn w (some ⟨b, off + i, none⟩) k ((zs.drop i).take k) := by
  obtain ⟨h1, h2, h3, h4⟩ := h
  refine ⟨by rw [List.length_take, List.length_drop, h1]; omega, by omega, fun z hz => h3 z (List.mem_of_mem_drop (List.mem_of_mem_take hz)), ?_⟩
  by_cases h0 : k = 0
  · exact .inl h0
  · obtain ⟨b', off', he, hc⟩ := h4.resolve_left (by omega)
    cases he
    refine .inr ⟨_, _, rfl, fun j hj => ?_⟩
    have := hc (i + j) (by omega)
    rw [Nat.add_assoc, this]
    simp [List.getD, hj]
theorem Tryd.info_token : (Tryd.prog.info? 26).map (·.size) = some 4 := by kernel_rfl
theorem BIn.drawn {w : World} {a : Option Addr} {len : Nat} {zs : List Int} (h : BIn w a len zs) : BIn w.drew a len zs := h

set_option maxHeartbeats 1000000 in
set_option maxRecDepth 100000 in
theorem tokenOf_of (b off : Nat) (c : Nat) (bs : List Int) (w : World) (h : BIn w (some ⟨b, off, none⟩) 18 bs) (hc : 18 ≤ c) :
    Calls Tryd.prog 30 #[.slice (some ⟨b, off, none⟩) 18 c] w fun e w' => e = .returned (tokV (tokI bs)) ∧ Below w.heap.size w w' := by
  have hb17 : (w.alloc (.cells #[.int .u32 0, .int .u32 0, .bool false, .int .u64 0] 26)).cell? ⟨b, off + 17, none⟩ = some (.int .u8 (bs.getD 17 0)) := by
    obtain ⟨b', off', he, hcl⟩ := h.2.2.2.resolve_left (by omega)
    cases he
    rw [World.cell?_alloc_old _ _ _ (Nat.ne_of_lt (old_block (hcl 17 (by omega))))]
    exact hcl 17 (by omega)
  have H : Hid (BIn w (some ⟨b, off, none⟩) 18 bs) := h
  clear h
  have c5 : (5 : Int) ≤ c := by omega
  have c9 : (9 : Int) ≤ c := by omega
  have c17 : (17 : Int) ≤ c := by omega
  have n1 : ¬ c = 1 := by omega
  have n5 : ¬ c = 5 := by omega
  have n9 : ¬ c = 9 := by omega
  have HB := fun o => (H.out.alloc o).drawn
  have hq := tokI_fits H.out.1 H.out.2.2.1
  have HF : Hid ((tokI bs).Fits) := hq
  clear hc hq
  obtain ⟨N1, e1⟩ : ∃ N, N = numI ((bs.drop 1).take 4) := ⟨_, rfl⟩
  obtain ⟨N2, e2⟩ : ∃ N, N = numI ((bs.drop 5).take 4) := ⟨_, rfl⟩
  obtain ⟨N3, e3⟩ : ∃ N, N = numI ((bs.drop 9).take 8) := ⟨_, rfl⟩
  have f1 : 0 ≤ N1 ∧ N1 < 4294967296 := by rw [e1]; exact HF.out.1
  have f2 : 0 ≤ N2 ∧ N2 < 4294967296 := by rw [e2]; exact HF.out.2.1
  obtain ⟨f10, f11⟩ := f1
  obtain ⟨f20, f21⟩ := f2
  have HE : Hid (N1 = numI ((bs.drop 1).take 4) ∧ N2 = numI ((bs.drop 5).take 4) ∧ N3 = numI ((bs.drop 9).take 8)) := ⟨e1, e2, e3⟩
  have C1 := fun (o : Obj) => number_of (some ⟨b, off + 1, none⟩) 4 (c - 1) ((bs.drop 1).take 4) (w.alloc o).drew ((HB o).part 1 4 (by omega)) (by omega)
  have C2 := fun (o : Obj) => number_of (some ⟨b, off + 5, none⟩) 4 (c - 5) ((bs.drop 5).take 4) (w.alloc o).drew ((HB o).part 5 4 (by omega)) (by omega)
  have C3 := fun (o : Obj) => number_of (some ⟨b, off + 9, none⟩) 8 (c - 9) ((bs.drop 9).take 8) (w.alloc o).drew ((HB o).part 9 8 (by omega)) (by omega)
  rw [← e1] at C1
  rw [← e2] at C2
  rw [← e3] at C3
  clear e1 e2 e3 HB
  go_enter Tryd.func30, Tryd.ntmps30
  go_wp2
  refine region_tail 16 (by kernel_rfl) (by kernel_rfl) ?_
  simp only [List.take_succ_cons, List.take_zero, List.drop_succ_cons, List.drop_zero]
  iterate 2 still_step
  still_call (C1 _)
  iterate 3 still_step
  still_call (C2 _)
  iterate 7 still_step
  still_call (C3 _)
  still_step
  refine wpStill_nil ?_
  go_wp2
  have hbk : Blk (w.alloc (.cells #[.int .u32 N1, .int .u32 N2, .bool (bs[17]?.getD 0 == 1), .int .u64 N3] 26)).drew w.heap.size [.int .u32 N1, .int .u32 N2, .bool (bs[17]?.getD 0 == 1), .int .u64 N3] 26 := (Blk.new w [.int .u32 N1, .int .u32 N2, .bool (bs[17]?.getD 0 == 1), .int .u64 N3] 26).drew
  refine bodyPost_ret (v := .agg #[.int .u32 N1, .int .u32 N2, .bool (bs[17]?.getD 0 == 1), .int .u64 N3]) (results_cell_one (p := 2) (ty := 26) rfl _ _ w.heap.size _ _ _ rfl hbk Tryd.underlying26 rfl Tryd.info_token) rfl ⟨?_, ?_⟩
  · unfold tokV tokI
    rw [HE.out.1, HE.out.2.1, HE.out.2.2]
    have : (bs[17]?.getD 0 == 1) = decide (bs.getD 17 0 = 1) := rfl
    rw [this]
  · exact ((Below.refl _ _).alloc (Nat.le_refl _) _).drew
end Go.Proofs.YtpliokkmiijieaaDoor
