/- Texts of this seat, one behind the other: CkZeros, CkSeal, CkPart, CkRound. -/
import Derived.Test.YtncnkpnfmbgifaaGreatP8
import Derived.Lib.AppendZerosOnto
import Derived.Test.YtncnkpnfmbgifaaGreatP9
import Derived.Test.YtncnkpnfmbgifaaGreatP7
import Derived.Test.YtncnkpnfmbgifaaGreatP3
import Derived.Deep.RegionHeld
import Derived.OrdersIn
import Derived.Orders
/- Appending noughts to a row of bytes of the call's own (append of make), as greet has it. -/
namespace Go.Proofs.YtncnkpnfmbgifaaGreat
open Go.RowKit
set_option linter.unusedVariables false
set_option maxRecDepth 4000

theorem zeroCells_one (z : Value) (k : Nat) : Builtin.zeroCells #[z] k = (List.replicate k z).toArray := by
 apply Array.ext'
 apply List.ext_getElem
 ·simp [Builtin.zeroCells]
 ·intro i h1 h2
  simp [Builtin.zeroCells, Nat.mod_one]
theorem run_append_room_zeros {P : Program} (w : World) (t tn ty e : TypeId) (i : TypeInfo) (kq kn : IntKind) (ht : P.underlying t = some (.slice e)) (htn : P.underlying tn = some (.int kn)) (hi : P.info? e = some i) (hz : i.zero = some (.int .u8 0)) (hs1 : i.size = 1) (hby : i.bytes = 1)
  (g sLen sCap : Nat) (cur : Array Value) (hg : w.heap[g]? = some (.cells cur e (0, 0))) (k : Nat) (h0 : 0 < k) (hle : k ≤ 1000000) (hroom : sLen + k ≤ sCap) (hfit : sLen + k ≤ cur.size) :
  (Builtin.append_ #[t, tn] ty #[.slice (some ⟨g, 0, none⟩) sLen sCap, .int kq k]).run P w =
   .ok (.slice (some ⟨g, 0, none⟩) (sLen + k) sCap) (w.setRow g (cur.toList.take sLen ++ List.replicate k (Value.int .u8 0) ++ cur.toList.drop (sLen + k)).toArray) := by
 have hst := run_storeCells_at P g sLen e (List.replicate k (.int .u8 0)) 0 cur w hg (by simpa using hfit) (by intro u hu; rw [(List.mem_replicate.1 hu).2]; rfl)
 simp only [Nat.add_zero, List.length_replicate] at hst
 have hw : IntKind.i64.wrap (k : Int) = k := by rw [IntKind.wrap_i64]; omega
 have hneg : ¬ ((k : Int) < 0) := by omega
 have h48i : ¬ (281474976710656 < (k : Int)) := by omega
 have hk0 : ¬ (k = 0) := by omega
 have hzc : Builtin.zeroCells (Value.int .u8 0).cells k = (List.replicate k (.int .u8 0)).toArray := zeroCells_one _ k
 simp [Builtin.append_, run_underlying ht, run_underlying htn, sizeOf, typeInfo, zeroValue, hi, hz, hs1, hby, asInt, asIntOf, hw, hneg, h48i, hk0, hroom, hzc, Addr.add_lit, hst]
theorem run_append_own_zeros {P : Program} (w : World) (base : Nat) (t tn ty e : TypeId) (i : TypeInfo) (kq kn : IntKind) (ht : P.underlying t = some (.slice e)) (htn : P.underlying tn = some (.int kn)) (hi : P.info? e = some i) (hz : i.zero = some (.int .u8 0)) (hsize : i.size = 1) (hby : i.bytes = 1)
  (v : Value) (n : Nat) (xs : List Value) (hown : w.ownsRow base e 1 v n xs) (k : Nat) (h0 : 0 < k) (hle : n + k ≤ 1000000) (hbase : base ≤ w.heap.size) :
  ∃ v' w', (Builtin.append_ #[t, tn] ty #[v, .int kq k]).run P w = .ok v' w' ∧ w'.ownsRow base e 1 v' (n + k) (xs ++ List.replicate k (.int .u8 0)) ∧ w.grownBy w' v.ownBlock := by
 have h63 : n + k ≤ maxLen := by unfold maxLen; omega
 have hxl : xs.length = n := by simpa using hown.1
 have hlen : (xs ++ List.replicate k (Value.int .u8 0)).length = (n + k) * 1 := by rw [List.length_append, hxl, List.length_replicate, Nat.mul_one]
 have hzc : Builtin.zeroCells (Value.int .u8 0).cells k = (List.replicate k (.int .u8 0)).toArray := zeroCells_one _ k
 have grown : ∀ (old : Nat), old < n + k → ∀ (row : Option Nat),
   (w.drew.alloc (.cells (xs.toArray ++ Builtin.zeroCells (Value.int .u8 0).cells k ++ Builtin.zeroCells (Value.int .u8 0).cells (grownCap w (n + k) old e - (n + k))) e)).ownsRow base e 1
    (.slice (some ⟨w.heap.size, 0, none⟩) (n + k) (grownCap w (n + k) old e)) (n + k) (xs ++ List.replicate k (.int .u8 0)) ∧
   w.grownBy (w.drew.alloc (.cells (xs.toArray ++ Builtin.zeroCells (Value.int .u8 0).cells k ++ Builtin.zeroCells (Value.int .u8 0).cells (grownCap w (n + k) old e - (n + k))) e)) row := by
  intro old ho row
  have hge := grownCap_ge w (n + k) old e
  have hcm : grownCap w (n + k) old e ≤ maxLen := grownCap_le_maxLen w (n + k) old e h63
  refine ⟨⟨hlen, .inr ⟨w.heap.size, _, _, rfl, hbase, heap_alloc_new w.drew _, hge, hcm, ?_, ?_⟩⟩, ⟨rfl, rfl, rfl, by simp, fun j hj _ => heap_alloc_old w.drew _ hj⟩⟩
  ·have hz1 : (Value.int IntKind.u8 0).cells.size = 1 := rfl
   simp only [Array.size_append, List.size_toArray, size_zeroCells, hz1, hxl]
   omega
  ·rw [hzc]
   simp only [Array.toList_append, List.append_assoc]
   rw [← List.append_assoc, ← hlen]
   exact List.take_left
 rcases hown.2 with ⟨rfl, rfl⟩ | ⟨g, cap, cur, rfl, hbg, hg, hnc, hcm, hcs, htake⟩
 ·have hx : xs = [] := List.eq_nil_of_length_eq_zero hxl
  subst hx
  have hr := Lib.run_append_grow_zeros (P := P) w t tn ty e i (.int .u8 0) kq kn ht htn hi hz none 0 0 [] (by simp [Builtin.firstCells]) k h0 (by omega) (by omega) (by omega) (by rw [hby]; omega) (by rw [hby]; exact growslice_fits (by omega) (by omega))
  have hgr := grown 0 (by omega) (Value.ownBlock (.slice none 0 0))
  exact ⟨_, _, hr, hgr.1, hgr.2⟩
 ·by_cases hroom : n + k ≤ cap
  ·have hcs' : cur.size = cap := by simpa using hcs
   have hr := run_append_room_zeros (P := P) w t tn ty e i kq kn ht htn hi hz hsize hby g n cap cur hg k h0 (by omega) hroom (by omega)
   refine ⟨_, _, hr, ⟨hlen, .inr ⟨g, cap, _, rfl, hbg, setRow_heap w g cur _ e _ hg, hroom, hcm, ?_, ?_⟩⟩, ⟨rfl, rfl, rfl, by simp, fun k _ hk => setRow_other w g k _ (fun e => hk (by simp [Value.ownBlock, e]))⟩⟩
   ·simp only [List.size_toArray, List.length_append, List.length_take, List.length_drop, Array.length_toList, List.length_replicate]
    omega
   ·have ht' : cur.toList.take n = xs := by simpa using htake
    rw [ht', ← hlen]
    exact List.take_left
  ·have holds : ∀ j u, xs[j]? = some u → w.cell? ((⟨g, 0, none⟩ : Addr).add j) = some u := hown.cells (g := g) rfl
   have hfo := run_firstCells_some (P := P) w.drew i.size n ⟨g, 0, none⟩ n cap xs (by rw [hsize]; simpa using hxl) (by simpa using holds)
   have hr := Lib.run_append_grow_zeros (P := P) w t tn ty e i (.int .u8 0) kq kn ht htn hi hz (some ⟨g, 0, none⟩) n cap xs hfo k h0 (by omega) (by omega) (by omega) (by rw [hby]; omega) (by rw [hby]; exact growslice_fits (by omega) (by omega))
   have hgr := grown cap (by omega) (Value.ownBlock (.slice (some ⟨g, 0, none⟩) n cap))
   exact ⟨_, _, hr, hgr.1, hgr.2⟩
theorem wpList_append_zeros {ops : Array Oper} {rest : List Oper} {o : Oper} {a : Act} {Q : Exit → Act → World → Prop} {w : World} (hgd : o.guard = none) (s x : Operand)
  (ho : o.op = .call { callee := .builtin .append, args := #[s, x], argTypes := #[43, 3] }) (base : Nat)
  (a0 : Option Addr) (n0 c0 : Nat) (xs : List Int) (hs : a.eval s = .slice a0 n0 c0) (hown : w.ownsRow base 5 1 (.slice a0 n0 c0) n0 (u8s xs))
  (k : Nat) (hx : a.eval x = .int .i64 k) (h0 : 0 < k) (hle : n0 + k ≤ 1000000) (hbase : base ≤ w.heap.size)
  (h : ∀ a' c' w', w'.ownsRow base 5 1 (.slice a' (n0 + k) c') (n0 + k) (u8s (xs ++ List.replicate k 0)) → Below base w w' → wpList Tryz.prog ops Q rest (a.put o.dst (.slice a' (n0 + k) c')) w') :
  wpList Tryz.prog ops Q (o :: rest) a w := by
 obtain ⟨i0, hi, hz0, hz1, hz2⟩ := info_parts Tryz.zero_u8
 refine wpList_plain hgd fun K hK => ?_
 obtain ⟨v', w', hr, hown', hgrow⟩ := run_append_own_zeros (P := Tryz.prog) w base 43 3 o.type 5 i0 .i64 .i64 Tryz.underlying43 Tryz.underlying3 hi hz0 hz1 hz2 _ n0 (u8s xs) hown k h0 hle hbase
 have hb : Below base w w' := (Below.refl base w).grown hgrow hbase (fun k hk => (hown.lt k hk).1)
 have hcat : u8s xs ++ List.replicate k (Value.int .u8 0) = u8s (xs ++ List.replicate k 0) := by simp [u8s]
 rw [hcat] at hown'
 obtain ⟨a', c', rfl⟩ : ∃ a' c', v' = .slice a' (n0 + k) c' := by
  rcases hown'.2 with ⟨hv, hn⟩ | ⟨g, cap, cur, hv, _⟩
  ·exact ⟨none, 0, by rw [hv, hn]⟩
  ·exact ⟨_, _, hv⟩
 unfold Oper.wp execOp
 simp only [ho, resolve, invoke, builtin, Sem.run_bind, Sem.run_pure, Result.andThen_ok, List.map_toArray, List.map_cons, List.map_nil, hs, hx, hr]
 exact hK _ _ (h a' c' w' hown' hb)
end Go.Proofs.YtncnkpnfmbgifaaGreat

/- What one call of ckpt's sealed does. -/
namespace Go.Proofs.YtncnkpnfmbgifaaGreat
open Go.RowKit
set_option linter.unusedVariables false
set_option maxRecDepth 4000

theorem app_bytes {W : World} {base : Nat} {a0 : Option Addr} {n0 c0 : Nat} {xs : List Int} (hown : W.ownsRow base 5 1 (.slice a0 n0 c0) n0 (u8s xs)) {a1 : Option Addr} {n1 c1 : Nat} {zs : List Int} (hin : BIn W a1 n1 zs) (hnil : a1 = none → n1 = 0 ∧ c1 = 0) (hle : n0 + n1 ≤ 1000000) (hb : base ≤ W.heap.size) :
  ∃ a' c' w', (Builtin.append_ #[43, 43] 43 #[.slice a0 n0 c0, .slice a1 n1 c1]).run Tryz.prog W = .ok (.slice a' (n0 + n1) c') w' ∧ w'.ownsRow base 5 1 (.slice a' (n0 + n1) c') (n0 + n1) (u8s (xs ++ zs)) ∧ Below base W w' ∧ W.grownBy w' (Value.ownBlock (.slice a0 n0 c0)) := by
 obtain ⟨i0, hi, hz0, hz1, hz2⟩ := info_parts Tryz.zero_u8
 obtain ⟨hl, hm, hfit, hcell⟩ := hin
 cases a1 with
 | none =>
  obtain ⟨rfl, rfl⟩ := hnil rfl
  obtain rfl : zs = [] := List.length_eq_zero_iff.1 hl
  refine ⟨a0, c0, W, run_append_owned_none (P := Tryz.prog) W base 43 43 5 i0 1 Tryz.underlying43 hi _ n0 (u8s xs) hown, by simpa using hown, Below.refl _ _, ⟨rfl, rfl, rfl, Nat.le_refl _, fun _ _ _ => rfl⟩⟩
 | some ad =>
  obtain ⟨v', w', h2, h3, h4, _⟩ := run_append_own (P := Tryz.prog) W base 43 43 5 i0 (.int .u8 0) 1 1 Tryz.underlying43 hi hz0 hz1 hz2 rfl (by decide) _ n0 (u8s xs) hown ad n1 c1 (u8s zs) (by rw [u8s_length, hl]; omega) (by
   intro j u hj
   have hjl : j < n1 := by have := (List.getElem?_eq_some_iff.1 hj).1; rwa [u8s_length, hl] at this
   rcases hcell with hc | ⟨b, off, ha, hc⟩
   ·omega
   ·cases ha
    rw [Addr.add_mid, hc j hjl, ← hj]
    simp [u8s, List.getD, hl, hjl]) (u8s_one _) (by unfold maxLen; omega) (by omega) hb
  have hcat : u8s xs ++ u8s zs = u8s (xs ++ zs) := by simp [u8s]
  rw [hcat] at h3
  obtain ⟨a', c', rfl⟩ := own_slice h3
  exact ⟨a', c', w', h2, h3, (Below.refl base W).grown h4 hb (fun k hk => (hown.lt k hk).1), h4⟩
theorem kpack_two {ws vs : List Int} {b d : Option Addr} {n c m f : Nat} {w W : World} {o1 o2 : Obj} (hW : W = (w.alloc o1).alloc o2) (hx : NIn .i64 W b n ws) (hy : NIn .u64 W d m vs) (hn : n ≤ 1000) (hm : m ≤ 1000) :
  Calls Tryz.prog 205 #[.slice b n c, .slice d m f] W.drew fun e w' => ∃ a' k' c', e = .returned (.slice a' k' c') ∧ k' = (packL ws vs).length ∧ w'.ownsRow w.heap.size 5 1 (.slice a' k' c') k' (u8s (packL ws vs)) ∧ Below w.heap.size w w' := by
 subst hW
 refine (pack_of b n c ws d m f vs _ hx.drew hy.drew (by omega) (by omega)).mono ?_
 rintro e w' ⟨a', k', c', h1, h2, h3, h4⟩
 refine ⟨a', k', c', h1, h2, own_lowerN h3 (by simp; omega), ((((Below.refl _ _).alloc (Nat.le_refl _) _).alloc (by simp) _).drew).trans (h4.mono (by simp; omega))⟩
theorem kpack_three {ws vs : List Int} {b d : Option Addr} {n c m f : Nat} {w W : World} {o1 o2 o3 : Obj} (hW : W = ((w.alloc o1).alloc o2).alloc o3) (hx : NIn .i64 W b n ws) (hy : NIn .u64 W d m vs) (hn : n ≤ 1000) (hm : m ≤ 1000) :
  Calls Tryz.prog 205 #[.slice b n c, .slice d m f] W.drew fun e w' => ∃ a' k' c', e = .returned (.slice a' k' c') ∧ k' = (packL ws vs).length ∧ w'.ownsRow w.heap.size 5 1 (.slice a' k' c') k' (u8s (packL ws vs)) ∧ Below w.heap.size w w' := by
 subst hW
 refine (pack_of b n c ws d m f vs _ hx.drew hy.drew (by omega) (by omega)).mono ?_
 rintro e w' ⟨a', k', c', h1, h2, h3, h4⟩
 refine ⟨a', k', c', h1, h2, own_lowerN h3 (by simp; omega), (((((Below.refl _ _).alloc (Nat.le_refl _) _).alloc (by simp) _).alloc (by simp; omega) _).drew).trans (h4.mono (by simp; omega))⟩
theorem nin_4 {w : World} {g : Nat} (h : w.heap.size = g) : NIn .i64 (w.alloc (.cells #[.int .i64 4] 3)) (some ⟨g, 0, none⟩) 1 [4] := nin_lit 3 h rfl rfl rfl (by omega)
theorem lit_one {K : Int} (h : FitsU K) : ∀ (X : World) (g : Nat), X.heap.size = g → NIn .u64 (X.alloc (.cells #[.int .u64 K] 47)) (some ⟨g, 0, none⟩) 1 [K] :=
 fun X g e => nin_litU 47 e rfl rfl (by intro z hz; simp only [List.mem_cons, List.not_mem_nil, or_false] at hz; subst hz; exact h) (by omega)
theorem own_splice {W W' : World} {B g n C : Nat} {L zs : List Int} {cur : Array Value} {off : Nat} (hB : B ≤ g) (hn : n ≤ C) (hm : C ≤ maxLen) (hs : cur.size = C) (ht : cur.toList.take n = u8s L) (hL : L.length = n) (ho : off + zs.length ≤ n) (hh : W'.heap[g]? = some (.cells (splice cur.toList off (u8s zs)).toArray 5 (0, 0))) :
  W'.ownsRow B 5 1 (.slice (some ⟨g, 0, none⟩) n C) n (u8s (splice L off zs)) := by
 refine ⟨by rw [u8s_length, splice_length (by omega)]; omega, .inr ⟨g, C, _, rfl, hB, hh, hn, hm, ?_, ?_⟩⟩
 ·simp [splice, u8s_length]; omega
 ·rw [Nat.mul_one, ← u8s_splice, ← ht]
  unfold splice
  have e1 : (cur.toList.take n).take off = cur.toList.take off := by rw [List.take_take]; congr 1; omega
  rw [e1, List.drop_take, u8s_length, ← List.append_assoc, ← List.append_assoc, List.take_append, List.take_of_length_le (by simp [u8s_length]; omega)]
  congr 2
  simp [u8s_length]; omega
theorem plsB_next {ps : List Pl} {j : Nat} {x : Pl} (h : ps[j]? = some x) : plsB (ps.take (j + 1)) = plsB (ps.take j) ++ plB x := by
 rw [List.take_add_one, h, Option.toList_some, plsB_snoc]
set_option maxHeartbeats 4000000 in
theorem ksealed_of (N : Nat) (A : Option Addr) (c : Nat) (hd : List Int) (a : Option Addr) (m d : Nat) (ps : List Pl) (w : World) (hA : BIn w A 26 hd) (hnil : A = none → 26 = 0 ∧ c = 0) (hk : KIn w a m ps) (hf : ∀ p ∈ ps, Fit2 p) (hN : 28 + 16 * m ≤ N) (hN' : N ≤ 4096) :
  Calls Tryz.prog 207 #[.int .i64 N, .slice A 26 c, .slice a m d] w fun e w' => ∃ g C, e = .returned (.slice (some ⟨g, 0, none⟩) N C) ∧ w'.ownsRow w.heap.size 5 1 (.slice (some ⟨g, 0, none⟩) N C) N (u8s (joinL (hd ++ plsB ps ++ List.replicate (N - 1 - (26 + 16 * m)) 0 ++ [231]))) ∧ Below w.heap.size w w' := by
 obtain ⟨i0, hi0, hz0, hz1, hz2⟩ := info_parts Tryz.zero_u8
 obtain ⟨q, hq⟩ : ∃ q, q = w.heap.size := ⟨_, rfl⟩
 have H : Hid (BIn w A 26 hd ∧ (A = none → 26 = 0 ∧ c = 0) ∧ KIn w a m ps ∧ (∀ p ∈ ps, Fit2 p) ∧ q = w.heap.size ∧ Tryz.prog.info? 5 = some i0 ∧ i0.zero = some (.int .u8 0) ∧ i0.size = 1 ∧ i0.bytes = 1) := ⟨hA, hnil, hk, hf, hq, hi0, hz0, hz1, hz2⟩
 have HN : Hid (28 + 16 * m ≤ N ∧ N ≤ 4096) := ⟨hN, hN'⟩
 have hmm : m ≤ 256 := by omega
 rw [← hq]
 clear hA hnil hk hf hi0 hz0 hz1 hz2 hN hN'
 go_enter Tryz.func207, Tryz.ntmps207
 go_upto_region 2 with (first
  | (at_make; refine wpList_make_own w rfl _ (.tmp 10) 43 rfl q 5 i0 (.int .u8 0) 1 Tryz.underlying43 H.out.2.2.2.2.2.1 H.out.2.2.2.2.2.2.1 H.out.2.2.2.2.2.2.2.1 .i64 .i64 _ N rfl rfl (by have := HN.out; omega) (by rw [H.out.2.2.2.2.2.2.2.2]; have := HN.out; omega) (by have := HN.out; unfold maxLen; omega) (by rw [H.out.2.2.2.2.1]; exact Nat.le_refl _) ?_; intro w1 ow1 gr1; have bl1 : Below q w w1 := (Below.refl _ _).grown gr1 (by rw [H.out.2.2.2.2.1]; exact Nat.le_refl _) (fun g hg => by cases hg))
  | (at_builtin; refine wpList_append_bin rfl (.tmp 11) (.tmp 12) rfl q _ 0 N [] rfl ow1 A 26 c hd rfl (H.out.1.below (by rw [← H.out.2.2.2.2.1]; exact bl1)) H.out.2.1 (by omega) (by rw [H.out.2.2.2.2.1]; exact bl1.size) ?_; intro a2 c2 w2 ow2 bl2))
 have H2 : Hid (w2.ownsRow q 5 1 (.slice a2 (0 + 26) c2) (0 + 26) (u8s (hd ++ plsB (ps.take 0))) ∧ Below q w w2) := ⟨by simpa [plsB] using ow2, bl1.trans bl2⟩
 clear ow1 gr1 bl1 ow2 bl2 hq
 go_wp2
 go_loopw [7, 16] (fun s i wr => ∃ (j : Nat) (a' : Option Addr) (k' c' : Nat), j ≤ m ∧ i = .int .i64 j ∧ s = .slice a' k' c' ∧ k' = 26 + 16 * j ∧ wr.ownsRow q 5 1 (.slice a' k' c') k' (u8s (hd ++ plsB (ps.take j))) ∧ Below q w wr) (fun _ i _ => m - (intOf i).toNat)
 case atStart => exact ⟨0, a2, 26, c2, Nat.zero_le _, rfl, rfl, rfl, H2.out.1, H2.out.2⟩
 case round =>
  obtain ⟨i, a', k', c', hi, rfl, rfl, hk', ow, bl⟩ := hrel
  rcases Nat.lt_or_ge i m with hlt | hge
  ·obtain ⟨x, hx⟩ : ∃ x, ps[i]? = some x := ⟨ps[i]'(by have := H.out.2.2.1.1; omega), by simp⟩
   have hxf := H.out.2.2.2.1 x (List.mem_of_getElem? hx)
   obtain ⟨b', off, hA, hc⟩ := (H.out.2.2.1.below (by rw [← H.out.2.2.2.2.1]; exact bl)).2.2.2.resolve_left (by omega)
   subst hA
   have d0 : wr.cell? ⟨b', off + i * 4, none⟩ = some (.int .u32 x.1.1) := hc i x hx 0 _ rfl
   have d1 : wr.cell? ⟨b', off + i * 4 + 1, none⟩ = some (.int .u64 x.1.2) := hc i x hx 1 _ rfl
   have d2 : wr.cell? ⟨b', off + i * 4 + 2, none⟩ = some (.int .i64 x.2.1) := hc i x hx 2 _ rfl
   have d3 : wr.cell? ⟨b', off + i * 4 + 3, none⟩ = some (.int .i64 x.2.2) := hc i x hx 3 _ rfl
   have hqw : q ≤ wr.heap.size := by have := bl.size; rw [← H.out.2.2.2.2.1] at this; exact this
   obtain ⟨qi, hqi⟩ : ∃ qi, qi = wr.heap.size := ⟨_, rfl⟩
   have kb : Blk (wr.alloc (.cells #[.int .u32 x.1.1, .int .u64 x.1.2, .int .i64 x.2.1, .int .i64 x.2.2] 51)) qi (plL x) 51 := Blk.new' hqi.symm rfl
   have ow7 := ow.alloc (.cells #[.int .u32 x.1.1, .int .u64 x.1.2, .int .i64 x.2.1, .int .i64 x.2.2] 51)
   have bl7 := bl.alloc hqw (.cells #[.int .u32 x.1.1, .int .u64 x.1.2, .int .i64 x.2.1, .int .i64 x.2.2] 51)
   have hi' : (i : Int) < m := by omega
   have hwi : IntKind.i64.wrap ((i : Int) + 1) = (i : Int) + 1 := by rw [IntKind.wrap_i64]; omega
   have HX : Hid (ps[i]? = some x ∧ Fit2 x ∧ k' = 26 + 16 * i ∧ q ≤ wr.heap.size) := ⟨hx, hxf, hk', hqw⟩
   clear hx hxf hc ow bl hk' hqw
   go_upto_region 5 with fail
   rw [← hqi]
   clear d0 d1 d2 d3
   have hsz7 : (wr.alloc (.cells #[.int .u32 x.1.1, .int .u64 x.1.2, .int .i64 x.2.1, .int .i64 x.2.2] 51)).heap.size = qi + 1 := by simp [hqi]
   generalize World.alloc wr _ = W7 at kb ow7 bl7 hsz7 ⊢
   have H7 : Hid (W7.ownsRow q 5 1 (.slice a' k' c') k' (u8s (hd ++ plsB (ps.take i))) ∧ Below q w W7 ∧ Blk W7 qi (plL x) 51 ∧ q ≤ W7.heap.size) := ⟨ow7, bl7, kb, by have := HX.out.2.2.2; omega⟩
   have c0 : W7.cell? ⟨qi, 0, none⟩ = some (.int .u32 x.1.1) := kb.cell 0
   have c1 : W7.cell? ⟨qi, 1, none⟩ = some (.int .u64 x.1.2) := kb.cell 1
   have c2' : W7.cell? ⟨qi, 2, none⟩ = some (.int .i64 x.2.1) := kb.cell 2
   have c3 : W7.cell? ⟨qi, 3, none⟩ = some (.int .i64 x.2.2) := kb.cell 3
   have g0 : ∀ o, (W7.alloc o).cell? ⟨qi, 0, none⟩ = some (.int .u32 x.1.1) := fun o => (kb.alloc o).cell 0
   have g1 : ∀ o, (W7.alloc o).cell? ⟨qi, 1, none⟩ = some (.int .u64 x.1.2) := fun o => (kb.alloc o).cell 1
   have g2 : ∀ o, (W7.alloc o).cell? ⟨qi, 2, none⟩ = some (.int .i64 x.2.1) := fun o => (kb.alloc o).cell 2
   have g3 : ∀ o, (W7.alloc o).cell? ⟨qi, 3, none⟩ = some (.int .i64 x.2.2) := fun o => (kb.alloc o).cell 3
   have i0 : ∀ o p, ((W7.alloc o).alloc p).cell? ⟨qi, 0, none⟩ = some (.int .u32 x.1.1) := fun o p => ((kb.alloc o).alloc p).cell 0
   have i1 : ∀ o p, ((W7.alloc o).alloc p).cell? ⟨qi, 1, none⟩ = some (.int .u64 x.1.2) := fun o p => ((kb.alloc o).alloc p).cell 1
   have i2 : ∀ o p, ((W7.alloc o).alloc p).cell? ⟨qi, 2, none⟩ = some (.int .i64 x.2.1) := fun o p => ((kb.alloc o).alloc p).cell 2
   have i3 : ∀ o p, ((W7.alloc o).alloc p).cell? ⟨qi, 3, none⟩ = some (.int .i64 x.2.2) := fun o p => ((kb.alloc o).alloc p).cell 3
   obtain ⟨u0, u2, u3⟩ : IntKind.u64.wrap x.1.1 = x.1.1 ∧ IntKind.u64.wrap x.2.1 = x.2.1 ∧ IntKind.u64.wrap x.2.2 = x.2.2 := by
    obtain ⟨⟨f0, _⟩, f2, f3⟩ := HX.out.2.1
    unfold Fits32 at f0
    unfold Fits16 at f2 f3
    simp only [IntKind.wrap_u64]
    omega
   have HL : Hid (∀ (X : World) (g : Nat), X.heap.size = g → NIn .u64 (X.alloc (.cells #[.int .u64 x.1.1, .int .u64 x.1.2, .int .u64 x.2.1, .int .u64 x.2.2] 47)) (some ⟨g, 0, none⟩) 4 (plV x)) := lit_pl HX.out.2.1
   have HA : Hid (∀ X, Below W7.heap.size W7 X → ∀ a8 k8 c8, k8 = (packL plW (plV x)).length → X.ownsRow W7.heap.size 5 1 (.slice a8 k8 c8) k8 (u8s (packL plW (plV x))) → ∃ a9 c9 w9, (Builtin.append_ #[43, 43] 43 #[.slice a' k' c', .slice a8 k8 c8]).run Tryz.prog X = .ok (.slice a9 (k' + k8) c9) w9 ∧ w9.ownsRow q 5 1 (.slice a9 (k' + k8) c9) (k' + k8) (u8s ((hd ++ plsB (ps.take i)) ++ packL plW (plV x))) ∧ Below q w w9 ∧ Blk w9 qi (plL x) 51) := by
    intro X hX a8 k8 c8 h8 o8
    have hlen : (packL plW (plV x)).length = 16 := plB_length x
    have oX := own_belowN H7.out.1 hX (Nat.le_refl _)
    have hqX : q ≤ X.heap.size := Nat.le_trans H7.out.2.2.2 hX.size
    obtain ⟨a9, c9, w9, e1, e2, e3, e4⟩ := app_bytes oX (own_bin o8 (by rw [h8, hlen]; unfold maxLen; omega) (packL_fits _ _)) (own_nil o8) (by have := HX.out.2.2.1; omega) hqX
    exact ⟨a9, c9, w9, e1, e2, (H7.out.2.1.trans (hX.mono H7.out.2.2.2)).trans e3, (H7.out.2.2.1.below hX H7.out.2.2.1.lt).grown (by decide) oX e4⟩
   clear kb ow7 bl7 hsz7 hqi
   go_region_held3 (fun X => X.cell? ⟨qi, 0, none⟩ = some (.int .u32 x.1.1) ∧ X.cell? ⟨qi, 1, none⟩ = some (.int .u64 x.1.2) ∧ X.cell? ⟨qi, 2, none⟩ = some (.int .i64 x.2.1) ∧ X.cell? ⟨qi, 3, none⟩ = some (.int .i64 x.2.2)) (first | exact ⟨c0, c1, c2', c3⟩ | exact ⟨g0 _, g1 _, g2 _, g3 _⟩ | exact ⟨i0 _ _, i1 _ _, i2 _ _, i3 _ _⟩ | exact ⟨m0, m1, m2, m3⟩ | exact ⟨n0, n1, n2, n3⟩)
    (first
    | (go_simp; go_at_call 223; refine (kplaceW_of _).mono ?_; rintro e W1 ⟨rfl, rfl⟩)
    | (go_simp; go_at_call 205; refine (kpack_two (ws := plW) (vs := plV x) rfl (by first | exact (nin_pl rfl).alloc _ | exact nin_pl (by simp)) (by first | exact HL.out _ _ (by simp) | exact (HL.out _ _ rfl).alloc _) (by omega) (by omega)).mono ?_; rintro e w8 ⟨a8, k8, c8, rfl, h8, o8, b8⟩; have kb8 := H7.out.2.2.1.below b8 H7.out.2.2.1.lt; have m0 : w8.cell? ⟨qi, 0, none⟩ = some (.int .u32 x.1.1) := kb8.cell 0; have m1 : w8.cell? ⟨qi, 1, none⟩ = some (.int .u64 x.1.2) := kb8.cell 1; have m2 : w8.cell? ⟨qi, 2, none⟩ = some (.int .i64 x.2.1) := kb8.cell 2; have m3 : w8.cell? ⟨qi, 3, none⟩ = some (.int .i64 x.2.2) := kb8.cell 3; obtain ⟨a9, c9, w9, e9, o9, b9, kb9⟩ := HA.out w8 b8 a8 k8 c8 h8 o8; have hh8 : Hid (k8 = (packL plW (plV x)).length) := h8; clear h8; have n0 : w9.cell? ⟨qi, 0, none⟩ = some (.int .u32 x.1.1) := kb9.cell 0; have n1 : w9.cell? ⟨qi, 1, none⟩ = some (.int .u64 x.1.2) := kb9.cell 1; have n2 : w9.cell? ⟨qi, 2, none⟩ = some (.int .i64 x.2.1) := kb9.cell 2; have n3 : w9.cell? ⟨qi, 3, none⟩ = some (.int .i64 x.2.2) := kb9.cell 3)
    | (refine cstep_append_run rfl (.tmp 20) (.tmp 36) 43 43 rfl _ _ rfl rfl _ _ e9 ?_))
   all_goals (
    have H9 : Hid (w9.ownsRow q 5 1 (.slice a9 (k' + k8) c9) (k' + k8) (u8s (hd ++ plsB (ps.take (i + 1)))) ∧ Below q w w9 ∧ k' + k8 = 26 + 16 * (i + 1)) := by
     refine ⟨?_, b9, ?_⟩
     ·rw [plsB_next HX.out.1, ← List.append_assoc]; exact o9
     ·have hlen : (packL plW (plV x)).length = 16 := plB_length x
      rw [hh8.out, hlen, HX.out.2.2.1]; omega
    clear o9 b9 e9 o8 b8 kb8 kb9 m0 m1 m2 m3 n0 n1 n2 n3 c0 c1 c2' c3 g0 g1 g2 g3 i0 i1 i2 i3 u0 u2 u3 HL HA
    go_wp2
    go_roundw
    case rel => exact ⟨i + 1, a9, k' + k8, c9, by omega, by simp, by simp, H9.out.2.2, H9.out.1, H9.out.2.1⟩
    case measure => simp [intOf]; omega)
  ·obtain rfl : i = m := by omega
   obtain ⟨Z, hZ⟩ : ∃ Z : Nat, Z = N - 1 - (26 + 16 * i) := ⟨_, rfl⟩
   have hw1 : IntKind.i64.wrap ((N : Int) - 1) = (N : Int) - 1 := by have := HN.out; rw [IntKind.wrap_i64]; omega
   have hw2 : IntKind.i64.wrap ((N : Int) - 1 - (k' : Int)) = (Z : Int) := by have := HN.out; rw [IntKind.wrap_i64]; omega
   have hqw : q ≤ wr.heap.size := by have := bl.size; rw [← H.out.2.2.2.2.1] at this; exact this
   have htk : ps.take i = ps := List.take_of_length_le (by rw [H.out.2.2.1.1]; exact Nat.le_refl _)
   rw [htk] at ow
   have HE : Hid (wr.ownsRow q 5 1 (.slice a' k' c') k' (u8s (hd ++ plsB ps)) ∧ Below q w wr ∧ k' = 26 + 16 * i ∧ Z = N - 1 - (26 + 16 * i) ∧ q ≤ wr.heap.size) := ⟨ow, bl, hk', hZ, hqw⟩
   clear ow bl hk' hZ htk hqw
   go_upto_region 8 with (at_builtin; refine wpList_append_zeros rfl (.tmp 39) (.tmp 44) rfl q a' k' c' (hd ++ plsB ps) rfl HE.out.1 Z rfl (by have := HE.out; have := HN.out; omega) (by have := HE.out; have := HN.out; omega) HE.out.2.2.2.2 ?_; intro a3 c3 w3 ow3 bl3)
   have H3 : Hid (w3.ownsRow q 5 1 (.slice a3 (k' + Z) c3) (k' + Z) (u8s (hd ++ plsB ps ++ List.replicate Z 0)) ∧ Below q w w3 ∧ q ≤ w3.heap.size) := ⟨ow3, HE.out.2.1.trans bl3, Nat.le_trans HE.out.2.2.2.2 bl3.size⟩
   clear ow3 bl3 hw1 hw2
   go_upto_region 9 with (at_builtin; refine wpList_append_bin rfl (.tmp 46) (.tmp 47) rfl q a3 (k' + Z) c3 (hd ++ plsB ps ++ List.replicate Z 0) rfl (H3.out.1.alloc _) (some ⟨w3.heap.size, 0, none⟩) 1 1 [231] rfl (new_bin rfl rfl rfl (by intro z hz; simp only [List.mem_cons, List.not_mem_nil, or_false] at hz; subst hz; unfold Fits8; omega) (by unfold maxLen; omega)) (fun h => by cases h) (by have := HE.out; have := HN.out; omega) (by have := H3.out.2.2; simp; omega) ?_; intro a4 c4 w4 ow4 bl4)
   have bw4 : Below q w w4 := (H3.out.2.1.alloc H3.out.2.2 _).trans bl4
   clear bl4
   obtain ⟨L, hL⟩ : ∃ L, L = hd ++ plsB ps ++ List.replicate Z 0 ++ [231] := ⟨_, rfl⟩
   rw [← hL] at ow4
   generalize hM : k' + Z + 1 = M at ow4 ⊢
   have hMN : M = N := by have := HE.out; have := HN.out; omega
   clear hM
   subst hMN
   have hLl : L.length = M := by have := ow4.1; rw [u8s_length] at this; omega
   rcases ow4.2 with ⟨hv, hn0⟩ | ⟨g, cap, cur, hv, hB, hg, hnc, hcm, hcs, htake⟩
   ·exact absurd hn0 (by have := HN.out; omega)
   ·cases hv
    have hLf : ∀ z ∈ L, Fits8 z := by
     intro z hz
     rw [hL] at hz
     simp only [List.mem_append, List.mem_replicate, List.mem_singleton] at hz
     rcases hz with ((h | h) | ⟨_, h⟩) | h
     ·exact H.out.1.2.2.1 z h
     ·exact plsB_fits _ z h
     ·subst h; unfold Fits8; omega
     ·subst h; unfold Fits8; omega
    have hBI : BIn w4 (some ⟨g, 0, none⟩) M L := own_bin ow4 (by omega) hLf
    have hsl : ∀ w : World, (Instr.slice 43 (.slice (some ⟨g, 0, none⟩) M c4) (some (.int .i64 4)) none none).run Tryz.prog w = .ok (.slice (some ⟨g, 4, none⟩) (M - 4) (c4 - 4)) w := fun w => by
     have := slice_back Tryz.underlying43 Tryz.one_bytes (some ⟨g, 0, none⟩) M c4 4 (by have := HN.out; omega) w
     rw [if_neg (by have := HN.out; omega)] at this
     simpa [Addr.add_mid] using this
    have hcr := crI_fits fits0 hLf
    obtain ⟨K, hK⟩ : ∃ K, K = crI 0 L := ⟨_, rfl⟩
    rw [← hK] at hcr
    have hKw : IntKind.u64.wrap K = K := by have := hcr.1; have := hcr.2; rw [IntKind.wrap_u64]; omega
    have HC : Hid (∀ X, Below w4.heap.size w4 X → ∀ a8 k8 c8, k8 = (packL [4] [K]).length → X.ownsRow w4.heap.size 5 1 (.slice a8 k8 c8) k8 (u8s (packL [4] [K])) → ∃ w9, (Builtin.copy_ #[43, 43] 3 #[.slice (some ⟨g, 4, none⟩) (M - 4) (c4 - 4), .slice a8 k8 c8]).run Tryz.prog X = .ok (.int .i64 4) w9 ∧ w9.ownsRow q 5 1 (.slice (some ⟨g, 0, none⟩) M c4) M (u8s (joinL L)) ∧ Below q w w9) := by
     intro X hX a8 k8 c8 h8 o8
     have hgX : X.heap[g]? = some (.cells cur 5 (0, 0)) := (hX.block g (Array.getElem?_eq_some_iff.1 hg).1).trans hg
     have hp4 : packL [4] [K] = bigI 4 K := pack4 K
     rw [hp4] at h8 o8
     rw [bigI_length] at h8
     subst h8
     obtain ⟨b8, off8, ha8, hc8⟩ := (own_bin o8 (by unfold maxLen; omega) (bigI_fits _ _)).2.2.2.resolve_left (by omega)
     have hM28 := HN.out
     have hcs' : cur.size = c4 := by simpa using hcs
     have hrun := run_copy_row (P := Tryz.prog) X 43 43 3 5 g 4 (M - 4) (c4 - 4) ⟨b8, off8, none⟩ 4 c8 cur 5 (u8s (bigI 4 K)) Tryz.underlying43 Tryz.byte1 hgX (by rw [u8s_length, bigI_length]; show 4 = min 4 (M - 4); omega) (fun j v hj => by
      have hjl : j < 4 := by have := (List.getElem?_eq_some_iff.1 hj).1; rwa [u8s_length, bigI_length] at this
      rw [Addr.add_mid, hc8 j hjl, ← hj]
      simp [u8s, List.getD, bigI_length, hjl]) (by rw [u8s_length, bigI_length]; omega) (u8s_one _)
     rw [ha8]
     rw [u8s_length, bigI_length] at hrun
     refine ⟨_, hrun, ?_, ?_⟩
     ·rw [← join_splice, ← hK]
      refine own_splice (cur := cur) (W := X) hB (by omega) hcm hcs' (by simpa using htake) hLl (by rw [bigI_length]; omega) ?_
      have := setRow_heap X g cur (cur.toList.take 4 ++ u8s (bigI 4 K) ++ cur.toList.drop (4 + 4)).toArray 5 (0, 0) hgX
      unfold splice
      rw [u8s_length, bigI_length, ← List.append_assoc]
      exact this
     ·exact below_setRow (bw4.trans (hX.mono (by have := (Array.getElem?_eq_some_iff.1 hg).1; omega))) hB _
    have HB : Hid (∀ X, Below w4.heap.size w4 X → BIn X (some ⟨g, 0, none⟩) M L) := fun X hX => hBI.below hX
    have HK : Hid (K = crI 0 L ∧ Fits32 K ∧ L = hd ++ plsB ps ++ List.replicate Z 0 ++ [231] ∧ Z = M - 1 - (26 + 16 * i)) := ⟨hK, hcr, hL, HE.out.2.2.2.1⟩
    clear hB hg hnc hcm hcs htake hLf hBI hcr hK hL bw4 ow4 hLl
    have hB0 : Hid (∀ X, X = w4.drew ∨ (∃ o, X = (w4.alloc o).drew) ∨ (∃ o o', X = ((w4.alloc o).alloc o').drew) → Below w4.heap.size w4 X) := by
     rintro X (rfl | ⟨o, rfl⟩ | ⟨o, o', rfl⟩)
     ·exact (Below.refl _ _).drew
     ·exact ((Below.refl _ _).alloc (Nat.le_refl _) _).drew
     ·exact (((Below.refl _ _).alloc (Nat.le_refl _) _).alloc (by simp) _).drew
    have HF : Hid (∀ (X : World) (g : Nat), X.heap.size = g → NIn .u64 (X.alloc (.cells #[.int .u64 K] 47)) (some ⟨g, 0, none⟩) 1 [K]) := lit_one (by have := HK.out.2.1; unfold Fits32 at this; unfold FitsU; omega)
    go_region_held3 (fun _ => True) (exact trivial)
     (first
     | (go_simp; go_at_call 180; refine (crcSum_of _ (some ⟨g, 0, none⟩) M c4 1 L _ (by first | exact (Blk.new' (L := [.slice (some ⟨g, 0, none⟩) M c4]) rfl rfl).cell 0 | exact (Blk.new' (L := [.slice (some ⟨g, 0, none⟩) M c4]) (by simp) rfl).cell 0 | exact ((Blk.new' (L := [.slice (some ⟨g, 0, none⟩) M c4]) rfl rfl).alloc _).cell 0) (HB.out _ (hB0.out _ (by first | exact .inr (.inl ⟨_, rfl⟩) | exact .inr (.inr ⟨_, _, rfl⟩))))).mono ?_; rintro e W5 ⟨rfl, hw5⟩; replace hw5 := hw5.symm; subst hw5; rw [← HK.out.1])
     | (go_simp; go_at_call 205; refine (kpack_three (ws := [4]) (vs := [K]) rfl (by first | exact ((nin_4 rfl).alloc _).alloc _ | exact (nin_4 (by simp)).alloc _ | exact nin_4 (by simp)) (by first | exact HF.out _ _ (by simp) | exact (HF.out _ _ (by simp)).alloc _) (by omega) (by omega)).mono ?_; rintro e w8 ⟨a8, k8, c8, rfl, h8, o8, b8⟩; obtain ⟨w9, e9, o9, b9⟩ := HC.out w8 b8 a8 k8 c8 h8 o8; clear h8 o8 b8))
    all_goals (
     have H9 : Hid (w9.ownsRow q 5 1 (.slice (some ⟨g, 0, none⟩) M c4) M (u8s (joinL L)) ∧ Below q w w9) := ⟨o9, b9⟩
     clear o9 b9 e9 HC HB hB0 hsl hKw HF
     go_wp2
     go_ret
     refine ⟨g, c4, rfl, ?_, H9.out.2⟩
     rw [← HK.out.2.2.2, ← HK.out.2.2.1]
     exact H9.out.1)
end Go.Proofs.YtncnkpnfmbgifaaGreat

/- What one call of ckpt's parts, and of the function that it tells, does, whatever the rounds do. -/
namespace Go.Proofs.YtncnkpnfmbgifaaGreat
open Go.RowKit Go.Shelf
set_option linter.unusedVariables false
attribute [local go_sem] Oper.semAt_some

theorem kparts_of (a : Option Addr) (n c : Nat) (r : Int) (w : World) : Calls Tryz.prog 204 #[.slice a n c, .int .i64 r] w fun e w' => e = .returned (.func (.func 220) #[] #[.pointer (some ⟨w.heap.size, 0, none⟩), .pointer (some ⟨w.heap.size + 1, 0, none⟩)]) ∧ w' = (w.alloc (.cells #[.slice a n c] 38)).alloc (.cells #[.int .i64 r] 3) := by
 have hmf : ∀ (fn : Fn) (first cap : Array Value) (w : World), (Instr.makeFunc fn first cap).run Tryz.prog w = .ok (.func fn first cap) w := fun _ _ _ _ => rfl
 go_enter Tryz.func204, Tryz.ntmps204
 go_wp2
 go_ret
 exact ⟨rfl, rfl⟩
def kadr (A : Option Addr) (C r : Nat) : Nat → Option Addr
 | 0 => A
 | k + 1 => kleft (kadr A C r k) (C - k * r) r
theorem KIn.cuts {w : World} {A : Option Addr} {n C r : Nat} {ps : List Pl} (h : KIn w A n ps) (hc : n ≤ C) : ∀ k, k * r ≤ n → KIn w (kadr A C r k) (n - k * r) (ps.drop (k * r))
 | 0, _ => by simpa [kadr] using h
 | k + 1, hk => by
  have e : (k + 1) * r = k * r + r := Nat.succ_mul k r
  rw [e] at hk
  have ih := KIn.cuts (r := r) h hc k (by omega)
  have := ih.back (c := C - k * r) r (by omega) (by omega)
  rw [List.drop_drop, Nat.sub_sub, ← e] at this
  exact this
theorem partK_drop {r k : Nat} {ps : List Pl} : partK r k ps = (ps.drop (k * r)).take r := rfl
theorem manyN_end {r n k : Nat} (hr : 0 < r) (h1 : n - k * r ≤ r) (h2 : k = 0 ∨ 0 < n - k * r) : manyN r n = k + 1 := by
 unfold manyN
 have e : (k + 1) * r = k * r + r := Nat.succ_mul k r
 rcases h2 with rfl | h2
 ·have : (n + r - 1) / r ≤ 1 := by
   rw [Nat.div_le_iff_le_mul_add_pred hr]; omega
  omega
 ·have h3 : (n + r - 1) / r = k + 1 := by
   apply Nat.div_eq_of_lt_le
   ·omega
   ·have e2 : (k + 1 + 1) * r = (k + 1) * r + r := Nat.succ_mul (k + 1) r
    omega
  omega
set_option maxRecDepth 100000 in
set_option maxHeartbeats 2000000 in
theorem kparts1_of {A : Option Addr} {n C r B1 B2 l : Nat} {R : Loop} {f : Nat} {J : Nat → World → Prop} {J' : Nat → Value → World → Prop} (hr : 0 < r) (hr' : r ≤ 1000000) (hn : n ≤ 10000000) (hC : n ≤ C)
  (hcap : ∀ k W, J k W → W.cell? ⟨B1, 0, none⟩ = some (.slice A n C) ∧ W.cell? ⟨B2, 0, none⟩ = some (.int .i64 r))
  (hmore : ∀ k W, J k W → k * r ≤ n → r < n - k * r → J' k (.slice (kadr A C r k) r (C - k * r)) W)
  (hlast : ∀ k W, J k W → k * r ≤ n → n - k * r ≤ r → (k = 0 ∨ 0 < n - k * r) → J' k (.slice (kadr A C r k) (n - k * r) (C - k * r)) W)
  (hY : ∀ k x W1, Book R l W1 → J' k x W1 → YieldAt Fence.wide (f - 1) Tryz.prog (l + 1) #[x] W1 fun e W' => e = .returned (.bool true) ∧ Book R l W' ∧ J (k + 1) W')
  (W : World) (hB : Book R l W) (h0 : J 0 W) :
  CallsIn Fence.wide f Tryz.prog 220 #[.func (.yield (l + 1)) #[] #[], .pointer (some ⟨B1, 0, none⟩), .pointer (some ⟨B2, 0, none⟩)] W fun e W' => (∃ v, e = .returned v) ∧ Book R l W' ∧ J (manyN r n) W' := by
 obtain ⟨c1, c2⟩ := hcap 0 W h0
 refine callsIn_of_wp Tryz.func220 rfl trivial ?_ rfl
 simp only [Tryz.ntmps220, List.size_toArray, List.length_cons, List.length_nil, Nat.reduceAdd, Nat.reduceSub, Array.replicate_succ, Array.replicate_zero, List.push_toArray, List.append_toArray, List.nil_append, List.cons_append]
 have hfw : ∀ f, Fence.wide.fn f = True := fun _ => rfl
 have hdw : Fence.wide.depth.isSome = false := rfl
 have HH : Hid ((∀ k W, J k W → W.cell? ⟨B1, 0, none⟩ = some (.slice A n C) ∧ W.cell? ⟨B2, 0, none⟩ = some (.int .i64 r)) ∧ (∀ k W, J k W → k * r ≤ n → r < n - k * r → J' k (.slice (kadr A C r k) r (C - k * r)) W) ∧ (∀ k W, J k W → k * r ≤ n → n - k * r ≤ r → (k = 0 ∨ 0 < n - k * r) → J' k (.slice (kadr A C r k) (n - k * r) (C - k * r)) W) ∧ Book R l W ∧ J 0 W ∧ 0 < r ∧ n ≤ C ∧ n ≤ 10000000) := ⟨hcap, hmore, hlast, hB, h0, hr, hC, hn⟩
 have HY : Hid (∀ k x W1, Book R l W1 → J' k x W1 → YieldAt Fence.wide (f - 1) Tryz.prog (l + 1) #[x] W1 fun e W' => e = .returned (.bool true) ∧ Book R l W' ∧ J (k + 1) W') := hY
 clear hcap hmore hlast hB h0 hY hr hC hr' hn
 gi_wp2
 gi_loopw [4] (fun v wr => ∃ k N : Nat, v = .slice (kadr A C r k) N (C - k * r) ∧ N = n - k * r ∧ k * r ≤ n ∧ (k = 0 ∨ 0 < n - k * r) ∧ Book R l wr ∧ J k wr) (fun v wr => (match v with | .slice _ N _ => N | _ => 0))
 case atStart =>
  exact ⟨0, n, by simp [kadr], by simp, by simp, .inl rfl, HH.out.2.2.2.1, HH.out.2.2.2.2.1⟩
 case round =>
  obtain ⟨k, N, rfl, hN, hkn, hpos, hbk, hj⟩ := hrel
  obtain ⟨c3, c4⟩ := HH.out.1 k _ hj
  have hrn := HH.out.2.2.2.2.2.1
  have hNC : N ≤ C - k * r := by have := HH.out.2.2.2.2.2.2.1; omega
  have hNs : N ≤ 10000000 := by have := HH.out.2.2.2.2.2.2.2; omega
  rcases Nat.lt_or_ge r N with hlt | hge
  ·have hJ' := HH.out.2.1 k wr hj hkn (by omega)
   obtain ⟨fn, tmps, assign, body, hy, hR⟩ := HY.out k _ wr hbk hJ'
   have hlt' : (r : Int) < N := by omega
   have hs1 := fun w => kslice_front (kadr A C r k) N (C - k * r) r (by omega) w
   have HK : Hid (N = n - k * r ∧ k * r ≤ n ∧ r < N) := ⟨hN, hkn, hlt⟩
   have hrN : r ≤ N := by omega
   clear hN hkn hpos hj hbk hJ' hlt
   gi_wp2
   refine hR.mono ?_
   rintro e W4 ⟨rfl, hbk4, hj4⟩
   obtain ⟨c5, c6⟩ := HH.out.1 (k + 1) _ hj4
   have hs2 := fun w => kslice_back (kadr A C r k) N (C - k * r) r hrN w
   have HJ : Hid (Book R l W4 ∧ J (k + 1) W4) := ⟨hbk4, hj4⟩
   clear hR hy hbk4 hj4 c3 c4
   gi_wp2
   go_roundw
   case rel =>
    have e : (k + 1) * r = k * r + r := Nat.succ_mul k r
    have hk := HK.out
    exact ⟨k + 1, N - r, by rw [e, ← Nat.sub_sub]; rfl, by omega, by omega, .inr (by omega), HJ.out.1, HJ.out.2⟩
   case measure => simp; omega
  ·have hJ' := HH.out.2.2.1 k wr hj hkn (by omega) hpos
   rw [← hN] at hJ'
   obtain ⟨fn, tmps, assign, body, hy, hR⟩ := HY.out k _ wr hbk hJ'
   have hge' : (N : Int) ≤ r := by omega
   have HK : Hid (manyN r n = k + 1) := manyN_end hrn (by omega) hpos
   clear hN hkn hpos hj hbk hJ' hge
   gi_wp2
   refine hR.mono ?_
   rintro e W4 ⟨rfl, hbk4, hj4⟩
   have HJ : Hid (Book R l W4 ∧ J (k + 1) W4) := ⟨hbk4, hj4⟩
   clear hR hy hbk4 hj4
   gi_wp2
   go_end0
   exact ⟨⟨_, rfl⟩, HJ.out.1, by rw [HK.out]; exact HJ.out.2⟩
end Go.Proofs.YtncnkpnfmbgifaaGreat

/- A region that draws its order, in the round of a range over a function: walked as anywhere. -/
namespace Go.Proofs.YtncnkpnfmbgifaaGreat
open Go.RowKit Go.Shelf
set_option linter.unusedVariables false
set_option maxRecDepth 4000

def nodefer (o : Oper) : Bool := match o.op with | .defer _ => false | _ => true
theorem nodefer_of {o : Oper} (h : nodefer o = true) : ∀ c, o.op ≠ .defer c := by
 intro c e
 unfold nodefer at h
 rw [e] at h
 cases h
theorem rows_in {P : Program} {l n : Nat} {row : String} {args : Array Value} {w : World} {R : Value → World → Prop} (h : Rows P row args w R) : RowsIn (Fence.wide.inRound l) n P row args w R :=
 fun c cs _ => let ⟨v, w', r, s⟩ := h c cs; ⟨v, w', r, stepsIn_wide.2 s⟩
theorem oper_round {P : Program} {l n : Nat} {o : Oper} {a : Act} {w : World} {K : Act → World → Prop} {Q : Exit → Act → World → Prop} (hd : nodefer o = true) (h : o.wp P a w K Q) : o.wpIn (Fence.wide.inRound l) n P a w K Q := by
 refine ⟨fun f _ => trivial, ?_⟩
 rw [show (Fence.wide.inRound l).round = some l from rfl, Oper.semAt_some l _ o (nodefer_of hd)]
 unfold Oper.wp at h
 generalize (execOp a.eval o).run P w = r at *
 cases r with
 | ok x w' =>
  cases x <;> simp only [Oper.upon, Oper.uponIn] at h ⊢ <;>
   first
    | exact h
    | exact ⟨(fun e => by cases e), callsIn_wide.2 h⟩
    | exact ⟨(fun e => by cases e), rows_in h⟩
 | halt x w' => cases x <;> simp only [Oper.upon, Oper.uponIn] at h ⊢ <;> exact h
theorem op_round {P : Program} {l n : Nat} {ops : Array Oper} {Q : Exit → Act → World → Prop} (hQ : ¬ LetsOut Q) (hd : ∀ (i : Nat) (o : Oper), ops[i]? = some o → nodefer o = true) {i : Nat} {K K' : Act → World → Prop} {a : Act} {w : World} (hK : ∀ a w, K a w → K' a w) (h : wpOp P ops Q i K a w) : wpOpIn (Fence.wide.inRound l) n P ops Q i K' a w := by
 unfold wpOp at h
 unfold wpOpIn
 cases ho : ops[i]? with
 | none => rw [ho] at h; exact hK _ _ h
 | some o =>
  rw [ho] at h
  dsimp only at h ⊢
  split
  ·rename_i hw
   rw [if_pos hw] at h
   rcases h with h | ⟨_, h⟩
   ·exact Oper.wpIn_mono hK (oper_round (hd i o ho) h)
   ·exact absurd h hQ
  ·rename_i hw
   rw [if_neg hw] at h
   exact ⟨fun f _ => trivial, hK _ _ h⟩
theorem any_round {P : Program} {l n : Nat} {md : Region.Mode} {ops : Array Oper} {Q : Exit → Act → World → Prop} (hQ : ¬ LetsOut Q) (hd : ∀ (i : Nat) (o : Oper), ops[i]? = some o → nodefer o = true) :
  ∀ (fuel : Nat) (listed : Array Bool) (a : Act) (w : World), wpAny P md ops Q fuel listed a w → wpAnyIn (Fence.wide.inRound l) n P md ops Q fuel listed a w
 | 0, _, _, _, h => h
 | fuel + 1, _, _, _, h => ⟨h.1, fun i hi => op_round hQ hd (fun a' w' h' => any_round hQ hd fuel _ a' w' h') (h.2 i hi)⟩
theorem region_round {P : Program} {l n id : Nat} {ops : List Oper} {S : World → Prop} {Q : Exit → Act → World → Prop} {a : Act} {w : World} (hm : P.follows .mixedOrders = true) (hQ : ¬ LetsOut Q) (hd : ops.all nodefer = true) (hS : S w.drew)
  (h : S w.drew → wpAnyH P .any ops.toArray Q S ops.toArray.size (Array.replicate ops.toArray.size false) a w.drew) : (Code.region id ops.toArray true).wpIn (Fence.wide.inRound l) n P Q a w :=
 wpIn_region_any hm (any_round hQ (fun i o ho => List.all_eq_true.1 hd o (by
  have := List.mem_of_getElem? (by simpa using ho : ops[i]? = some o)
  exact this)) _ _ _ _ (wpAny_of_held _ _ _ _ (h hS)))
end Go.Proofs.YtncnkpnfmbgifaaGreat
