/- P13 -/
import Derived.Test.YtcdnjeiamihhbabGreatP12
set_option linter.unusedVariables false
set_option maxRecDepth 4000
namespace Go.Proofs.YtcdnjeiamihhbabGreat
open Go.RowKit
theorem app_bytes {W : World} {base : Nat} {a0 : Option Addr} {n0 c0 : Nat} {xs : List Int} (hown : W.ownsRow base 5 1 (.slice a0 n0 c0) n0 (u8s xs)) {a1 : Option Addr} {n1 c1 : Nat} {zs : List Int} (hin : BIn W a1 n1 zs) (hnil : a1 = none → n1 = 0 ∧ c1 = 0) (hle : n0 + n1 ≤ 1000000) (hb : base ≤ W.heap.size) :
  ∃ a' c' w', (Builtin.append_ #[51, 51] 51 #[.slice a0 n0 c0, .slice a1 n1 c1]).run Tryz.prog W = .ok (.slice a' (n0 + n1) c') w' ∧ w'.ownsRow base 5 1 (.slice a' (n0 + n1) c') (n0 + n1) (u8s (xs ++ zs)) ∧ Below base W w' ∧ W.grownBy w' (Value.ownBlock (.slice a0 n0 c0)) := by
 obtain ⟨i0, hi, hz0, hz1, hz2⟩ := info_parts Tryz.zero_u8
 obtain ⟨hl, hm, hfit, hcell⟩ := hin
 cases a1 with
 | none =>
  obtain ⟨rfl, rfl⟩ := hnil rfl
  obtain rfl : zs = [] := List.length_eq_zero_iff.1 hl
  refine ⟨a0, c0, W, run_append_owned_none (P := Tryz.prog) W base 51 51 5 i0 1 Tryz.underlying51 hi _ n0 (u8s xs) hown, by simpa using hown, Below.refl _ _, ⟨rfl, rfl, rfl, Nat.le_refl _, fun _ _ _ => rfl⟩⟩
 | some ad =>
  obtain ⟨v', w', h2, h3, h4, _⟩ := run_append_own (P := Tryz.prog) W base 51 51 5 i0 (.int .u8 0) 1 1 Tryz.underlying51 hi hz0 hz1 hz2 rfl (by decide) _ n0 (u8s xs) hown ad n1 c1 (u8s zs) (by rw [u8s_length, hl]; omega) (by
   intro j u hj
   have hjl : j < n1 := by have := (List.getElem?_eq_some_iff.1 hj).1; rwa [u8s_length, hl] at this
   rcases hcell with hc | ⟨b, off, ha, hc⟩
   ·omega
   ·cases ha
    rw [Addr.add_mid, hc j hjl, ← hj]
    simp [u8s, List.getD, hl, hjl]) (u8s_one _) (by unfold maxLen; omega) (by omega) hb
  have hcat : u8s xs ++ u8s zs = u8s (xs ++ zs) := by simp [u8s]
  rw [hcat] at h3
  obtain ⟨a', c', rfl⟩ := own_slice h3
  exact ⟨a', c', w', h2, h3, (Below.refl base W).grown h4 hb (fun k hk => (hown.lt k hk).1), h4⟩
theorem kpack_two {ws vs : List Int} {b d : Option Addr} {n c m f : Nat} {w W : World} {o1 o2 : Obj} (hW : W = (w.alloc o1).alloc o2) (hx : NIn .i64 W b n ws) (hy : NIn .u64 W d m vs) (hn : n ≤ 1000) (hm : m ≤ 1000) :
  Calls Tryz.prog 159 #[.slice b n c, .slice d m f] W.drew fun e w' => ∃ a' k' c', e = .returned (.slice a' k' c') ∧ k' = (packL ws vs).length ∧ w'.ownsRow w.heap.size 5 1 (.slice a' k' c') k' (u8s (packL ws vs)) ∧ Below w.heap.size w w' := by
 subst hW
 refine (pack_of b n c ws d m f vs _ hx.drew hy.drew (by omega) (by omega)).mono ?_
 rintro e w' ⟨a', k', c', h1, h2, h3, h4⟩
 refine ⟨a', k', c', h1, h2, own_lowerN h3 (by simp; omega), ((((Below.refl _ _).alloc (Nat.le_refl _) _).alloc (by simp) _).drew).trans (h4.mono (by simp; omega))⟩
theorem kpack_three {ws vs : List Int} {b d : Option Addr} {n c m f : Nat} {w W : World} {o1 o2 o3 : Obj} (hW : W = ((w.alloc o1).alloc o2).alloc o3) (hx : NIn .i64 W b n ws) (hy : NIn .u64 W d m vs) (hn : n ≤ 1000) (hm : m ≤ 1000) :
  Calls Tryz.prog 159 #[.slice b n c, .slice d m f] W.drew fun e w' => ∃ a' k' c', e = .returned (.slice a' k' c') ∧ k' = (packL ws vs).length ∧ w'.ownsRow w.heap.size 5 1 (.slice a' k' c') k' (u8s (packL ws vs)) ∧ Below w.heap.size w w' := by
 subst hW
 refine (pack_of b n c ws d m f vs _ hx.drew hy.drew (by omega) (by omega)).mono ?_
 rintro e w' ⟨a', k', c', h1, h2, h3, h4⟩
 refine ⟨a', k', c', h1, h2, own_lowerN h3 (by simp; omega), (((((Below.refl _ _).alloc (Nat.le_refl _) _).alloc (by simp) _).alloc (by simp; omega) _).drew).trans (h4.mono (by simp; omega))⟩
theorem nin_4 {w : World} {g : Nat} (h : w.heap.size = g) : NIn .i64 (w.alloc (.cells #[.int .i64 4] 3)) (some ⟨g, 0, none⟩) 1 [4] := nin_lit 3 h rfl rfl rfl (by omega)
theorem lit_one {K : Int} (h : FitsU K) : ∀ (X : World) (g : Nat), X.heap.size = g → NIn .u64 (X.alloc (.cells #[.int .u64 K] 36)) (some ⟨g, 0, none⟩) 1 [K] :=
 fun X g e => nin_litU 36 e rfl rfl (by intro z hz; simp only [List.mem_cons, List.not_mem_nil, or_false] at hz; subst hz; exact h) (by omega)
/-- A row of which a part is written over. -/
theorem own_splice {W W' : World} {B g n C : Nat} {L zs : List Int} {cur : Array Value} {off : Nat} (hB : B ≤ g) (hn : n ≤ C) (hm : C ≤ maxLen) (hs : cur.size = C) (ht : cur.toList.take n = u8s L) (hL : L.length = n) (ho : off + zs.length ≤ n) (hh : W'.heap[g]? = some (.cells (splice cur.toList off (u8s zs)).toArray 5 (0, 0))) :
  W'.ownsRow B 5 1 (.slice (some ⟨g, 0, none⟩) n C) n (u8s (splice L off zs)) := by
 refine ⟨by rw [u8s_length, splice_length (by omega)]; omega, .inr ⟨g, C, _, rfl, hB, hh, hn, hm, ?_, ?_⟩⟩
 ·simp [splice, u8s_length]; omega
 ·rw [Nat.mul_one, ← u8s_splice, ← ht]
  unfold splice
  have e1 : (cur.toList.take n).take off = cur.toList.take off := by rw [List.take_take]; congr 1; omega
  rw [e1, List.drop_take, u8s_length, ← List.append_assoc, ← List.append_assoc, List.take_append, List.take_of_length_le (by simp [u8s_length]; omega)]
  congr 2
  simp [u8s_length]; omega
theorem plsB_next {ps : List Pl} {j : Nat} {x : Pl} (h : ps[j]? = some x) : plsB (ps.take (j + 1)) = plsB (ps.take j) ++ plB x := by
 rw [List.take_add_one, h, Option.toList_some, plsB_snoc]
set_option maxHeartbeats 4000000 in
theorem ksealed_of (N : Nat) (A : Option Addr) (c : Nat) (hd : List Int) (a : Option Addr) (m d : Nat) (ps : List Pl) (w : World) (hA : BIn w A 26 hd) (hnil : A = none → 26 = 0 ∧ c = 0) (hk : KIn w a m ps) (hf : ∀ p ∈ ps, Fit2 p) (hN : 28 + 16 * m ≤ N) (hN' : N ≤ 4096) :
  Calls Tryz.prog 161 #[.int .i64 N, .slice A 26 c, .slice a m d] w fun e w' => ∃ g C, e = .returned (.slice (some ⟨g, 0, none⟩) N C) ∧ w'.ownsRow w.heap.size 5 1 (.slice (some ⟨g, 0, none⟩) N C) N (u8s (joinL (hd ++ plsB ps ++ List.replicate (N - 1 - (26 + 16 * m)) 0 ++ [231]))) ∧ Below w.heap.size w w' := by
 obtain ⟨i0, hi0, hz0, hz1, hz2⟩ := info_parts Tryz.zero_u8
 obtain ⟨q, hq⟩ : ∃ q, q = w.heap.size := ⟨_, rfl⟩
 have H : Hid (BIn w A 26 hd ∧ (A = none → 26 = 0 ∧ c = 0) ∧ KIn w a m ps ∧ (∀ p ∈ ps, Fit2 p) ∧ q = w.heap.size ∧ Tryz.prog.info? 5 = some i0 ∧ i0.zero = some (.int .u8 0) ∧ i0.size = 1 ∧ i0.bytes = 1) := ⟨hA, hnil, hk, hf, hq, hi0, hz0, hz1, hz2⟩
 have HN : Hid (28 + 16 * m ≤ N ∧ N ≤ 4096) := ⟨hN, hN'⟩
 have hmm : m ≤ 256 := by omega
 rw [← hq]
 clear hA hnil hk hf hi0 hz0 hz1 hz2 hN hN'
 go_enter Tryz.func161, Tryz.ntmps161
 go_upto_region 2 with (first
  | (at_make; refine wpList_make_own w rfl _ (.tmp 10) 51 rfl q 5 i0 (.int .u8 0) 1 Tryz.underlying51 H.out.2.2.2.2.2.1 H.out.2.2.2.2.2.2.1 H.out.2.2.2.2.2.2.2.1 .i64 .i64 _ N rfl rfl (by have := HN.out; omega) (by rw [H.out.2.2.2.2.2.2.2.2]; have := HN.out; omega) (by have := HN.out; unfold maxLen; omega) (by rw [H.out.2.2.2.2.1]; exact Nat.le_refl _) ?_; intro w1 ow1 gr1; have bl1 : Below q w w1 := (Below.refl _ _).grown gr1 (by rw [H.out.2.2.2.2.1]; exact Nat.le_refl _) (fun g hg => by cases hg))
  | (at_builtin; refine wpList_append_bin rfl (.tmp 11) (.tmp 12) rfl q _ 0 N [] rfl ow1 A 26 c hd rfl (H.out.1.below (by rw [← H.out.2.2.2.2.1]; exact bl1)) H.out.2.1 (by omega) (by rw [H.out.2.2.2.2.1]; exact bl1.size) ?_; intro a2 c2 w2 ow2 bl2))
 have H2 : Hid (w2.ownsRow q 5 1 (.slice a2 (0 + 26) c2) (0 + 26) (u8s (hd ++ plsB (ps.take 0))) ∧ Below q w w2) := ⟨by simpa [plsB] using ow2, bl1.trans bl2⟩
 clear ow1 gr1 bl1 ow2 bl2 hq
 go_wp2
 go_loopw [7, 16] (fun s i wr => ∃ (j : Nat) (a' : Option Addr) (k' c' : Nat), j ≤ m ∧ i = .int .i64 j ∧ s = .slice a' k' c' ∧ k' = 26 + 16 * j ∧ wr.ownsRow q 5 1 (.slice a' k' c') k' (u8s (hd ++ plsB (ps.take j))) ∧ Below q w wr) (fun _ i _ => m - (intOf i).toNat)
 case atStart => exact ⟨0, a2, 26, c2, Nat.zero_le _, rfl, rfl, rfl, H2.out.1, H2.out.2⟩
 case round =>
  obtain ⟨i, a', k', c', hi, rfl, rfl, hk', ow, bl⟩ := hrel
  rcases Nat.lt_or_ge i m with hlt | hge
  ·obtain ⟨x, hx⟩ : ∃ x, ps[i]? = some x := ⟨ps[i]'(by have := H.out.2.2.1.1; omega), by simp⟩
   have hxf := H.out.2.2.2.1 x (List.mem_of_getElem? hx)
   obtain ⟨b', off, hA, hc⟩ := (H.out.2.2.1.below (by rw [← H.out.2.2.2.2.1]; exact bl)).2.2.2.resolve_left (by omega)
   subst hA
   have d0 : wr.cell? ⟨b', off + i * 4, none⟩ = some (.int .u32 x.1.1) := hc i x hx 0 _ rfl
   have d1 : wr.cell? ⟨b', off + i * 4 + 1, none⟩ = some (.int .u64 x.1.2) := hc i x hx 1 _ rfl
   have d2 : wr.cell? ⟨b', off + i * 4 + 2, none⟩ = some (.int .i64 x.2.1) := hc i x hx 2 _ rfl
   have d3 : wr.cell? ⟨b', off + i * 4 + 3, none⟩ = some (.int .i64 x.2.2) := hc i x hx 3 _ rfl
   have hqw : q ≤ wr.heap.size := by have := bl.size; rw [← H.out.2.2.2.2.1] at this; exact this
   obtain ⟨qi, hqi⟩ : ∃ qi, qi = wr.heap.size := ⟨_, rfl⟩
   have kb : Blk (wr.alloc (.cells #[.int .u32 x.1.1, .int .u64 x.1.2, .int .i64 x.2.1, .int .i64 x.2.2] 131)) qi (plL x) 131 := Blk.new' hqi.symm rfl
   have ow7 := ow.alloc (.cells #[.int .u32 x.1.1, .int .u64 x.1.2, .int .i64 x.2.1, .int .i64 x.2.2] 131)
   have bl7 := bl.alloc hqw (.cells #[.int .u32 x.1.1, .int .u64 x.1.2, .int .i64 x.2.1, .int .i64 x.2.2] 131)
   have hi' : (i : Int) < m := by omega
   have hwi : IntKind.i64.wrap ((i : Int) + 1) = (i : Int) + 1 := by rw [IntKind.wrap_i64]; omega
   have HX : Hid (ps[i]? = some x ∧ Fit2 x ∧ k' = 26 + 16 * i ∧ q ≤ wr.heap.size) := ⟨hx, hxf, hk', hqw⟩
   clear hx hxf hc ow bl hk' hqw
   go_upto_region 5 with fail
   rw [← hqi]
   clear d0 d1 d2 d3
   have hsz7 : (wr.alloc (.cells #[.int .u32 x.1.1, .int .u64 x.1.2, .int .i64 x.2.1, .int .i64 x.2.2] 131)).heap.size = qi + 1 := by simp [hqi]
   generalize World.alloc wr _ = W7 at kb ow7 bl7 hsz7 ⊢
   have H7 : Hid (W7.ownsRow q 5 1 (.slice a' k' c') k' (u8s (hd ++ plsB (ps.take i))) ∧ Below q w W7 ∧ Blk W7 qi (plL x) 131 ∧ q ≤ W7.heap.size) := ⟨ow7, bl7, kb, by have := HX.out.2.2.2; omega⟩
   have c0 : W7.cell? ⟨qi, 0, none⟩ = some (.int .u32 x.1.1) := kb.cell 0
   have c1 : W7.cell? ⟨qi, 1, none⟩ = some (.int .u64 x.1.2) := kb.cell 1
   have c2' : W7.cell? ⟨qi, 2, none⟩ = some (.int .i64 x.2.1) := kb.cell 2
   have c3 : W7.cell? ⟨qi, 3, none⟩ = some (.int .i64 x.2.2) := kb.cell 3
   have g0 : ∀ o, (W7.alloc o).cell? ⟨qi, 0, none⟩ = some (.int .u32 x.1.1) := fun o => (kb.alloc o).cell 0
   have g1 : ∀ o, (W7.alloc o).cell? ⟨qi, 1, none⟩ = some (.int .u64 x.1.2) := fun o => (kb.alloc o).cell 1
   have g2 : ∀ o, (W7.alloc o).cell? ⟨qi, 2, none⟩ = some (.int .i64 x.2.1) := fun o => (kb.alloc o).cell 2
   have g3 : ∀ o, (W7.alloc o).cell? ⟨qi, 3, none⟩ = some (.int .i64 x.2.2) := fun o => (kb.alloc o).cell 3
   have i0 : ∀ o p, ((W7.alloc o).alloc p).cell? ⟨qi, 0, none⟩ = some (.int .u32 x.1.1) := fun o p => ((kb.alloc o).alloc p).cell 0
   have i1 : ∀ o p, ((W7.alloc o).alloc p).cell? ⟨qi, 1, none⟩ = some (.int .u64 x.1.2) := fun o p => ((kb.alloc o).alloc p).cell 1
   have i2 : ∀ o p, ((W7.alloc o).alloc p).cell? ⟨qi, 2, none⟩ = some (.int .i64 x.2.1) := fun o p => ((kb.alloc o).alloc p).cell 2
   have i3 : ∀ o p, ((W7.alloc o).alloc p).cell? ⟨qi, 3, none⟩ = some (.int .i64 x.2.2) := fun o p => ((kb.alloc o).alloc p).cell 3
   obtain ⟨u0, u2, u3⟩ : IntKind.u64.wrap x.1.1 = x.1.1 ∧ IntKind.u64.wrap x.2.1 = x.2.1 ∧ IntKind.u64.wrap x.2.2 = x.2.2 := by
    obtain ⟨⟨f0, _⟩, f2, f3⟩ := HX.out.2.1
    unfold Fits32 at f0
    unfold Fits16 at f2 f3
    simp only [IntKind.wrap_u64]
    omega
   have HL : Hid (∀ (X : World) (g : Nat), X.heap.size = g → NIn .u64 (X.alloc (.cells #[.int .u64 x.1.1, .int .u64 x.1.2, .int .u64 x.2.1, .int .u64 x.2.2] 36)) (some ⟨g, 0, none⟩) 4 (plV x)) := lit_pl HX.out.2.1
   have HA : Hid (∀ X, Below W7.heap.size W7 X → ∀ a8 k8 c8, k8 = (packL plW (plV x)).length → X.ownsRow W7.heap.size 5 1 (.slice a8 k8 c8) k8 (u8s (packL plW (plV x))) → ∃ a9 c9 w9, (Builtin.append_ #[51, 51] 51 #[.slice a' k' c', .slice a8 k8 c8]).run Tryz.prog X = .ok (.slice a9 (k' + k8) c9) w9 ∧ w9.ownsRow q 5 1 (.slice a9 (k' + k8) c9) (k' + k8) (u8s ((hd ++ plsB (ps.take i)) ++ packL plW (plV x))) ∧ Below q w w9 ∧ Blk w9 qi (plL x) 131) := by
    intro X hX a8 k8 c8 h8 o8
    have hlen : (packL plW (plV x)).length = 16 := plB_length x
    have oX := own_belowN H7.out.1 hX (Nat.le_refl _)
    have hqX : q ≤ X.heap.size := Nat.le_trans H7.out.2.2.2 hX.size
    obtain ⟨a9, c9, w9, e1, e2, e3, e4⟩ := app_bytes oX (own_bin o8 (by rw [h8, hlen]; unfold maxLen; omega) (packL_fits _ _)) (own_nil o8) (by have := HX.out.2.2.1; omega) hqX
    exact ⟨a9, c9, w9, e1, e2, (H7.out.2.1.trans (hX.mono H7.out.2.2.2)).trans e3, (H7.out.2.2.1.below hX H7.out.2.2.1.lt).grown (by decide) oX e4⟩
   clear kb ow7 bl7 hsz7 hqi
   go_region_held3 (fun X => X.cell? ⟨qi, 0, none⟩ = some (.int .u32 x.1.1) ∧ X.cell? ⟨qi, 1, none⟩ = some (.int .u64 x.1.2) ∧ X.cell? ⟨qi, 2, none⟩ = some (.int .i64 x.2.1) ∧ X.cell? ⟨qi, 3, none⟩ = some (.int .i64 x.2.2)) (first | exact ⟨c0, c1, c2', c3⟩ | exact ⟨g0 _, g1 _, g2 _, g3 _⟩ | exact ⟨i0 _ _, i1 _ _, i2 _ _, i3 _ _⟩ | exact ⟨m0, m1, m2, m3⟩ | exact ⟨n0, n1, n2, n3⟩)
    (first
    | (go_simp; go_at_call 194; refine (kplaceW_of _).mono ?_; rintro e W1 ⟨rfl, rfl⟩)
    | (go_simp; go_at_call 159; refine (kpack_two (ws := plW) (vs := plV x) rfl (by first | exact (nin_pl rfl).alloc _ | exact nin_pl (by simp)) (by first | exact HL.out _ _ (by simp) | exact (HL.out _ _ rfl).alloc _) (by omega) (by omega)).mono ?_; rintro e w8 ⟨a8, k8, c8, rfl, h8, o8, b8⟩; have kb8 := H7.out.2.2.1.below b8 H7.out.2.2.1.lt; have m0 : w8.cell? ⟨qi, 0, none⟩ = some (.int .u32 x.1.1) := kb8.cell 0; have m1 : w8.cell? ⟨qi, 1, none⟩ = some (.int .u64 x.1.2) := kb8.cell 1; have m2 : w8.cell? ⟨qi, 2, none⟩ = some (.int .i64 x.2.1) := kb8.cell 2; have m3 : w8.cell? ⟨qi, 3, none⟩ = some (.int .i64 x.2.2) := kb8.cell 3; obtain ⟨a9, c9, w9, e9, o9, b9, kb9⟩ := HA.out w8 b8 a8 k8 c8 h8 o8; have hh8 : Hid (k8 = (packL plW (plV x)).length) := h8; clear h8; have n0 : w9.cell? ⟨qi, 0, none⟩ = some (.int .u32 x.1.1) := kb9.cell 0; have n1 : w9.cell? ⟨qi, 1, none⟩ = some (.int .u64 x.1.2) := kb9.cell 1; have n2 : w9.cell? ⟨qi, 2, none⟩ = some (.int .i64 x.2.1) := kb9.cell 2; have n3 : w9.cell? ⟨qi, 3, none⟩ = some (.int .i64 x.2.2) := kb9.cell 3)
    | (refine cstep_append_run rfl (.tmp 20) (.tmp 36) 51 51 rfl _ _ rfl rfl _ _ e9 ?_))
   all_goals (
    have H9 : Hid (w9.ownsRow q 5 1 (.slice a9 (k' + k8) c9) (k' + k8) (u8s (hd ++ plsB (ps.take (i + 1)))) ∧ Below q w w9 ∧ k' + k8 = 26 + 16 * (i + 1)) := by
     refine ⟨?_, b9, ?_⟩
     ·rw [plsB_next HX.out.1, ← List.append_assoc]; exact o9
     ·have hlen : (packL plW (plV x)).length = 16 := plB_length x
      rw [hh8.out, hlen, HX.out.2.2.1]; omega
    clear o9 b9 e9 o8 b8 kb8 kb9 m0 m1 m2 m3 n0 n1 n2 n3 c0 c1 c2' c3 g0 g1 g2 g3 i0 i1 i2 i3 u0 u2 u3 HL HA
    go_wp2
    go_roundw
    case rel => exact ⟨i + 1, a9, k' + k8, c9, by omega, by simp, by simp, H9.out.2.2, H9.out.1, H9.out.2.1⟩
    case measure => simp [intOf]; omega)
  ·obtain rfl : i = m := by omega
   obtain ⟨Z, hZ⟩ : ∃ Z : Nat, Z = N - 1 - (26 + 16 * i) := ⟨_, rfl⟩
   have hw1 : IntKind.i64.wrap ((N : Int) - 1) = (N : Int) - 1 := by have := HN.out; rw [IntKind.wrap_i64]; omega
   have hw2 : IntKind.i64.wrap ((N : Int) - 1 - (k' : Int)) = (Z : Int) := by have := HN.out; rw [IntKind.wrap_i64]; omega
   have hqw : q ≤ wr.heap.size := by have := bl.size; rw [← H.out.2.2.2.2.1] at this; exact this
   have htk : ps.take i = ps := List.take_of_length_le (by rw [H.out.2.2.1.1]; exact Nat.le_refl _)
   rw [htk] at ow
   have HE : Hid (wr.ownsRow q 5 1 (.slice a' k' c') k' (u8s (hd ++ plsB ps)) ∧ Below q w wr ∧ k' = 26 + 16 * i ∧ Z = N - 1 - (26 + 16 * i) ∧ q ≤ wr.heap.size) := ⟨ow, bl, hk', hZ, hqw⟩
   clear ow bl hk' hZ htk hqw
   go_upto_region 8 with (at_builtin; refine wpList_append_zeros rfl (.tmp 39) (.tmp 44) rfl q a' k' c' (hd ++ plsB ps) rfl HE.out.1 Z rfl (by have := HE.out; have := HN.out; omega) (by have := HE.out; have := HN.out; omega) HE.out.2.2.2.2 ?_; intro a3 c3 w3 ow3 bl3)
   have H3 : Hid (w3.ownsRow q 5 1 (.slice a3 (k' + Z) c3) (k' + Z) (u8s (hd ++ plsB ps ++ List.replicate Z 0)) ∧ Below q w w3 ∧ q ≤ w3.heap.size) := ⟨ow3, HE.out.2.1.trans bl3, Nat.le_trans HE.out.2.2.2.2 bl3.size⟩
   clear ow3 bl3 hw1 hw2
   go_upto_region 9 with (at_builtin; refine wpList_append_bin rfl (.tmp 46) (.tmp 47) rfl q a3 (k' + Z) c3 (hd ++ plsB ps ++ List.replicate Z 0) rfl (H3.out.1.alloc _) (some ⟨w3.heap.size, 0, none⟩) 1 1 [231] rfl (new_bin rfl rfl rfl (by intro z hz; simp only [List.mem_cons, List.not_mem_nil, or_false] at hz; subst hz; unfold Fits8; omega) (by unfold maxLen; omega)) (fun h => by cases h) (by have := HE.out; have := HN.out; omega) (by have := H3.out.2.2; simp; omega) ?_; intro a4 c4 w4 ow4 bl4)
   have bw4 : Below q w w4 := (H3.out.2.1.alloc H3.out.2.2 _).trans bl4
   clear bl4
   obtain ⟨L, hL⟩ : ∃ L, L = hd ++ plsB ps ++ List.replicate Z 0 ++ [231] := ⟨_, rfl⟩
   rw [← hL] at ow4
   generalize hM : k' + Z + 1 = M at ow4 ⊢
   have hMN : M = N := by have := HE.out; have := HN.out; omega
   clear hM
   subst hMN
   have hLl : L.length = M := by have := ow4.1; rw [u8s_length] at this; omega
   rcases ow4.2 with ⟨hv, hn0⟩ | ⟨g, cap, cur, hv, hB, hg, hnc, hcm, hcs, htake⟩
   ·exact absurd hn0 (by have := HN.out; omega)
   ·cases hv
    have hLf : ∀ z ∈ L, Fits8 z := by
     intro z hz
     rw [hL] at hz
     simp only [List.mem_append, List.mem_replicate, List.mem_singleton] at hz
     rcases hz with ((h | h) | ⟨_, h⟩) | h
     ·exact H.out.1.2.2.1 z h
     ·exact plsB_fits _ z h
     ·subst h; unfold Fits8; omega
     ·subst h; unfold Fits8; omega
    have hBI : BIn w4 (some ⟨g, 0, none⟩) M L := own_bin ow4 (by omega) hLf
    have hsl : ∀ w : World, (Instr.slice 51 (.slice (some ⟨g, 0, none⟩) M c4) (some (.int .i64 4)) none none).run Tryz.prog w = .ok (.slice (some ⟨g, 4, none⟩) (M - 4) (c4 - 4)) w := fun w => by
     have := slice_back Tryz.underlying51 Tryz.one_bytes (some ⟨g, 0, none⟩) M c4 4 (by have := HN.out; omega) w
     rw [if_neg (by have := HN.out; omega)] at this
     simpa [Addr.add_mid] using this
    have hcr := crI_fits fits0 hLf
    obtain ⟨K, hK⟩ : ∃ K, K = crI 0 L := ⟨_, rfl⟩
    rw [← hK] at hcr
    have hKw : IntKind.u64.wrap K = K := by have := hcr.1; have := hcr.2; rw [IntKind.wrap_u64]; omega
    have HC : Hid (∀ X, Below w4.heap.size w4 X → ∀ a8 k8 c8, k8 = (packL [4] [K]).length → X.ownsRow w4.heap.size 5 1 (.slice a8 k8 c8) k8 (u8s (packL [4] [K])) → ∃ w9, (Builtin.copy_ #[51, 51] 3 #[.slice (some ⟨g, 4, none⟩) (M - 4) (c4 - 4), .slice a8 k8 c8]).run Tryz.prog X = .ok (.int .i64 4) w9 ∧ w9.ownsRow q 5 1 (.slice (some ⟨g, 0, none⟩) M c4) M (u8s (joinL L)) ∧ Below q w w9) := by
     intro X hX a8 k8 c8 h8 o8
     have hgX : X.heap[g]? = some (.cells cur 5 (0, 0)) := (hX.block g (Array.getElem?_eq_some_iff.1 hg).1).trans hg
     have hp4 : packL [4] [K] = bigI 4 K := pack4 K
     rw [hp4] at h8 o8
     rw [bigI_length] at h8
     subst h8
     obtain ⟨b8, off8, ha8, hc8⟩ := (own_bin o8 (by unfold maxLen; omega) (bigI_fits _ _)).2.2.2.resolve_left (by omega)
     have hM28 := HN.out
     have hcs' : cur.size = c4 := by simpa using hcs
     have hrun := run_copy_row (P := Tryz.prog) X 51 51 3 5 g 4 (M - 4) (c4 - 4) ⟨b8, off8, none⟩ 4 c8 cur 5 (u8s (bigI 4 K)) Tryz.underlying51 Tryz.byte1 hgX (by rw [u8s_length, bigI_length]; show 4 = min 4 (M - 4); omega) (fun j v hj => by
      have hjl : j < 4 := by have := (List.getElem?_eq_some_iff.1 hj).1; rwa [u8s_length, bigI_length] at this
      rw [Addr.add_mid, hc8 j hjl, ← hj]
      simp [u8s, List.getD, bigI_length, hjl]) (by rw [u8s_length, bigI_length]; omega) (u8s_one _)
     rw [ha8]
     rw [u8s_length, bigI_length] at hrun
     refine ⟨_, hrun, ?_, ?_⟩
     ·rw [← join_splice, ← hK]
      refine own_splice (cur := cur) (W := X) hB (by omega) hcm hcs' (by simpa using htake) hLl (by rw [bigI_length]; omega) ?_
      have := setRow_heap X g cur (cur.toList.take 4 ++ u8s (bigI 4 K) ++ cur.toList.drop (4 + 4)).toArray 5 (0, 0) hgX
      unfold splice
      rw [u8s_length, bigI_length, ← List.append_assoc]
      exact this
     ·exact below_setRow (bw4.trans (hX.mono (by have := (Array.getElem?_eq_some_iff.1 hg).1; omega))) hB _
    have HB : Hid (∀ X, Below w4.heap.size w4 X → BIn X (some ⟨g, 0, none⟩) M L) := fun X hX => hBI.below hX
    have HK : Hid (K = crI 0 L ∧ Fits32 K ∧ L = hd ++ plsB ps ++ List.replicate Z 0 ++ [231] ∧ Z = M - 1 - (26 + 16 * i)) := ⟨hK, hcr, hL, HE.out.2.2.2.1⟩
    clear hB hg hnc hcm hcs htake hLf hBI hcr hK hL bw4 ow4 hLl
    have hB0 : Hid (∀ X, X = w4.drew ∨ (∃ o, X = (w4.alloc o).drew) ∨ (∃ o o', X = ((w4.alloc o).alloc o').drew) → Below w4.heap.size w4 X) := by
     rintro X (rfl | ⟨o, rfl⟩ | ⟨o, o', rfl⟩)
     ·exact (Below.refl _ _).drew
     ·exact ((Below.refl _ _).alloc (Nat.le_refl _) _).drew
     ·exact (((Below.refl _ _).alloc (Nat.le_refl _) _).alloc (by simp) _).drew
    have HF : Hid (∀ (X : World) (g : Nat), X.heap.size = g → NIn .u64 (X.alloc (.cells #[.int .u64 K] 36)) (some ⟨g, 0, none⟩) 1 [K]) := lit_one (by have := HK.out.2.1; unfold Fits32 at this; unfold FitsU; omega)
    go_region_held3 (fun _ => True) (exact trivial)
     (first
     | (go_simp; go_at_call 41; refine (crcSum_of _ (some ⟨g, 0, none⟩) M c4 1 L _ (by first | exact (Blk.new' (L := [.slice (some ⟨g, 0, none⟩) M c4]) rfl rfl).cell 0 | exact (Blk.new' (L := [.slice (some ⟨g, 0, none⟩) M c4]) (by simp) rfl).cell 0 | exact ((Blk.new' (L := [.slice (some ⟨g, 0, none⟩) M c4]) rfl rfl).alloc _).cell 0) (HB.out _ (hB0.out _ (by first | exact .inr (.inl ⟨_, rfl⟩) | exact .inr (.inr ⟨_, _, rfl⟩))))).mono ?_; rintro e W5 ⟨rfl, hw5⟩; replace hw5 := hw5.symm; subst hw5; rw [← HK.out.1])
     | (go_simp; go_at_call 159; refine (kpack_three (ws := [4]) (vs := [K]) rfl (by first | exact ((nin_4 rfl).alloc _).alloc _ | exact (nin_4 (by simp)).alloc _ | exact nin_4 (by simp)) (by first | exact HF.out _ _ (by simp) | exact (HF.out _ _ (by simp)).alloc _) (by omega) (by omega)).mono ?_; rintro e w8 ⟨a8, k8, c8, rfl, h8, o8, b8⟩; obtain ⟨w9, e9, o9, b9⟩ := HC.out w8 b8 a8 k8 c8 h8 o8; clear h8 o8 b8))
    all_goals (
     have H9 : Hid (w9.ownsRow q 5 1 (.slice (some ⟨g, 0, none⟩) M c4) M (u8s (joinL L)) ∧ Below q w w9) := ⟨o9, b9⟩
     clear o9 b9 e9 HC HB hB0 hsl hKw HF
     go_wp2
     go_ret
     refine ⟨g, c4, rfl, ?_, H9.out.2⟩
     rw [← HK.out.2.2.2, ← HK.out.2.2.1]
     exact H9.out.1)
end Go.Proofs.YtcdnjeiamihhbabGreat
