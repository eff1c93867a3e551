/- P11 -/
import Derived.Test.YtcdnjeiamihhbabGreatP10
set_option linter.unusedVariables false
set_option maxRecDepth 4000
namespace Go.Proofs.YtcdnjeiamihhbabGreat
open Go.RowKit
def plL (p : Pl) : List Value := [.int .u32 p.1.1, .int .u64 p.1.2, .int .i64 p.2.1, .int .i64 p.2.2]
def KIn (w : World) (a : Option Addr) (n : Nat) (ps : List Pl) : Prop :=
 ps.length = n ∧ n ≤ maxLen ∧ (∀ p ∈ ps, FitsP p) ∧ (n = 0 ∨ ∃ b off, a = some ⟨b, off, none⟩ ∧ ∀ (i : Nat) (x : Pl), ps[i]? = some x → ∀ (j : Nat) (v : Value), (plL x)[j]? = some v → w.cell? ⟨b, off + i * 4 + j, none⟩ = some v)
theorem KIn.below {w w' : World} {a : Option Addr} {n : Nat} {ps : List Pl} (h : KIn w a n ps) (hb : Below w.heap.size w w') : KIn w' a n ps := by
 obtain ⟨h1, h2, h3, h4⟩ := h
 refine ⟨h1, h2, h3, ?_⟩
 rcases h4 with h4 | ⟨b, off, ha, hc⟩
 ·exact .inl h4
 ·exact .inr ⟨b, off, ha, fun i x hx j v hv => by rw [hb.cell (old_block (hc i x hx j v hv))]; exact hc i x hx j v hv⟩
theorem KIn.alloc {w : World} {a : Option Addr} {n : Nat} {ps : List Pl} (h : KIn w a n ps) (o : Obj) : KIn (w.alloc o) a n ps := h.below ((Below.refl _ _).alloc (Nat.le_refl _) o)
theorem KIn.drew {w : World} {a : Option Addr} {n : Nat} {ps : List Pl} (h : KIn w a n ps) : KIn w.drew a n ps := h
theorem kin_none (w : World) : KIn w none 0 [] := ⟨rfl, Nat.zero_le _, by simp, .inl rfl⟩
/-- Places stay where no cell of theirs is written. -/
theorem KIn.cells {w w' : World} {a : Option Addr} {n : Nat} {ps : List Pl} (h : KIn w a n ps) (hc : ∀ b o v, a.map (·.block) = some b → w.cell? ⟨b, o, none⟩ = some v → w'.cell? ⟨b, o, none⟩ = some v) : KIn w' a n ps := by
 obtain ⟨h1, h2, h3, h4⟩ := h
 refine ⟨h1, h2, h3, ?_⟩
 rcases h4 with h4 | ⟨b, off, ha, hh⟩
 ·exact .inl h4
 ·exact .inr ⟨b, off, ha, fun i x hx j v hv => hc b _ v (by rw [ha]; rfl) (hh i x hx j v hv)⟩
theorem KIn.out {O : Nat → Prop} {w w' : World} {a : Option Addr} {n : Nat} {ps : List Pl} (h : KIn w a n ps) (ho : Out O w w') (hO : ∀ b, a.map (·.block) = some b → ¬ O b) : KIn w' a n ps :=
 h.cells (fun b o v hb hv => ho.cell hv (hO b hb))
theorem KIn.part {w : World} {b off n : Nat} {ps : List Pl} (h : KIn w (some ⟨b, off, none⟩) n ps) (i m : Nat) (hik : i + m ≤ n) : KIn w (some ⟨b, off + i * 4, none⟩) m ((ps.drop i).take m) := by
 obtain ⟨h1, h2, h3, h4⟩ := h
 refine ⟨by rw [List.length_take, List.length_drop]; omega, by omega, fun p hp => h3 p (List.mem_of_mem_drop (List.mem_of_mem_take hp)), ?_⟩
 by_cases h0 : m = 0
 ·exact .inl h0
 ·obtain ⟨b', off', e, hc⟩ := h4.resolve_left (by omega)
  cases e
  refine .inr ⟨_, _, rfl, fun k x hx j v hv => ?_⟩
  have hk : k < m := by have := (List.getElem?_eq_some_iff.1 hx).1; rw [List.length_take] at this; omega
  rw [List.getElem?_take_of_lt hk, List.getElem?_drop] at hx
  have := hc (i + k) x hx j v hv
  rw [show off + (i + k) * 4 + j = off + i * 4 + k * 4 + j by omega] at this
  exact this
theorem KIn.front {w : World} {a : Option Addr} {n : Nat} {ps : List Pl} (h : KIn w a n ps) (m : Nat) (hm : m ≤ n) : KIn w a m (ps.take m) := by
 by_cases h0 : m = 0
 ·subst h0
  exact ⟨by simp, Nat.zero_le _, by simp, .inl rfl⟩
 ·obtain ⟨b, off, rfl, _⟩ := h.2.2.2.resolve_left (by omega)
  simpa using h.part 0 m (by omega)
/-- What slicing leaves behind i places. -/
def kleft (a : Option Addr) (c i : Nat) : Option Addr := if c = i then a else a.map (·.add (i * 4))
theorem KIn.back {w : World} {a : Option Addr} {n c : Nat} {ps : List Pl} (h : KIn w a n ps) (i : Nat) (hi : i ≤ n) (hc : n ≤ c) : KIn w (kleft a c i) (n - i) (ps.drop i) := by
 by_cases h0 : n - i = 0
 ·exact ⟨by rw [List.length_drop, h.1], by omega, fun p hp => h.2.2.1 p (List.mem_of_mem_drop hp), .inl h0⟩
 ·obtain ⟨b, off, rfl, _⟩ := h.2.2.2.resolve_left (by omega)
  unfold kleft
  rw [if_neg (by have := h.2.1; omega)]
  have := h.part i (n - i) (by omega)
  rw [List.take_of_length_le (by rw [List.length_drop, h.1]; exact Nat.le_refl _)] at this
  simpa [Addr.add_mid] using this
theorem Tryz.four_places : ∀ w : World, (sizeOf (Tryz.prog.elem 76)).run Tryz.prog w = .ok 4 w := fun _ => by kernel_rfl
theorem kslice_front (a : Option Addr) (n c k : Nat) (hk : k ≤ c) (w : World) :
  (Instr.slice 76 (.slice a n c) none (some (.int .i64 (k : Int))) none).run Tryz.prog w = .ok (.slice a k c) w := by
 rw [run_slice_h (P := Tryz.prog) w 76 a n c Tryz.underlying76 .i64 k (by omega) (by omega), Tryz.four_places w]
 simp only [Result.andThen, Int.toNat_natCast]
 unfold sliced
 cases a with
 | none => simp
 | some x => simp [Addr.add]
theorem kslice_back (a : Option Addr) (n c k : Nat) (hk : k ≤ n) (w : World) :
  (Instr.slice 76 (.slice a n c) (some (.int .i64 (k : Int))) none none).run Tryz.prog w = .ok (.slice (kleft a c k) (n - k) (c - k)) w := by
 rw [run_slice_l (P := Tryz.prog) w 76 a n c Tryz.underlying76 .i64 k (by omega) (by omega), Tryz.four_places w]
 simp only [Result.andThen, Int.toNat_natCast]
 rfl
/-! ### Places in a row of the call's own -/
def plC (xs : List Pl) : List Value := xs.flatMap plL
theorem plC_length (xs : List Pl) : (plC xs).length = xs.length * 4 := by
 unfold plC
 induction xs with
 | nil => rfl
 | cons x r ih => rw [List.flatMap_cons, List.length_append, ih, List.length_cons]; simp [plL]; omega
theorem plC_snoc (xs : List Pl) (x : Pl) : plC xs ++ plL x = plC (xs ++ [x]) := by simp [plC]
theorem plC_at : ∀ (xs : List Pl) (i : Nat) (x : Pl) (j : Nat), xs[i]? = some x → j < 4 → (plC xs)[i * 4 + j]? = (plL x)[j]?
 | [], i, x, j, h, _ => by simp at h
 | y :: r, 0, x, j, h, hj => by
  have : y = x := by simpa using h
  subst this
  rw [plC, List.flatMap_cons, Nat.zero_mul, Nat.zero_add, List.getElem?_append_left (by simp [plL]; omega)]
 | y :: r, i + 1, x, j, h, hj => by
  have h' : r[i]? = some x := by simpa using h
  rw [plC, List.flatMap_cons, List.getElem?_append_right (by simp [plL]; omega)]
  have : (i + 1) * 4 + j - (plL y).length = i * 4 + j := by simp [plL]; omega
  rw [this]
  exact plC_at r i x j h' hj
theorem plL_one (x : Pl) : ∀ v ∈ plL x, v.oneCell' = true := by
 intro v hv; simp only [plL, List.mem_cons, List.not_mem_nil, or_false] at hv; rcases hv with rfl | rfl | rfl | rfl <;> rfl
theorem own_kin {W : World} {base : Nat} {a : Option Addr} {n c : Nat} {xs : List Pl} (h : W.ownsRow base 131 4 (.slice a n c) n (plC xs)) (hm : n ≤ maxLen) (hf : ∀ x ∈ xs, FitsP x) : KIn W a n xs := by
 have hl : xs.length = n := by have := h.1; rw [plC_length] at this; omega
 refine ⟨hl, hm, hf, ?_⟩
 rcases h.2 with ⟨hv, hn⟩ | ⟨g, cap, cur, hv, hb, hg, hc, hcm, hsz, htake⟩
 ·exact .inl hn
 ·cases hv
  refine .inr ⟨g, 0, rfl, fun i x hx j v hv => ?_⟩
  have hj : j < 4 := (List.getElem?_eq_some_iff.1 hv).1
  have hcl := h.cells (g := g) rfl (i * 4 + j) v (by rw [plC_at xs i x j hx hj]; exact hv)
  rw [Addr.add_mid] at hcl
  rw [Nat.add_assoc]
  exact hcl
theorem Tryz.zero_place : (Tryz.prog.info? 131).map (fun i => (i.zero, i.size, i.bytes)) = some (some (.agg #[.int .u32 0, .int .u64 0, .int .i64 0, .int .i64 0]), 4, 32) := by kernel_rfl
theorem app_place {W : World} {base : Nat} {a : Option Addr} {n c : Nat} {xs : List Pl} (h : W.ownsRow base 131 4 (.slice a n c) n (plC xs)) (x : Pl) (hle : n + 1 ≤ 10000000) (hb : base ≤ W.heap.size) :
  ∃ a' c' w', (Builtin.append_ #[76, 76] 76 #[.slice a n c, .slice (some ⟨W.heap.size, 0, none⟩) 1 1]).run Tryz.prog (W.alloc (.cells #[.int .u32 x.1.1, .int .u64 x.1.2, .int .i64 x.2.1, .int .i64 x.2.2] 131)) = .ok (.slice a' (n + 1) c') w' ∧ w'.ownsRow base 131 4 (.slice a' (n + 1) c') (n + 1) (plC (xs ++ [x])) ∧ Below base W w' ∧ (W.alloc (.cells #[.int .u32 x.1.1, .int .u64 x.1.2, .int .i64 x.2.1, .int .i64 x.2.2] 131)).grownBy w' (Value.ownBlock (.slice a n c)) := by
 obtain ⟨i0, hi, hz0, hz1, hz2⟩ := info_parts Tryz.zero_place
 obtain ⟨v', w', hrun, hown', hgrow, _⟩ := run_append_own (P := Tryz.prog) (W.alloc (.cells (plL x).toArray 131)) base 76 76 131 i0 _ 4 32 Tryz.underlying76 hi hz0 hz1 hz2 rfl (by decide) _ n (plC xs) (h.alloc _) ⟨W.heap.size, 0, none⟩ 1 1 (plL x) rfl (by
  intro j u hj
  rw [Addr.add_mid, Nat.zero_add, World.cell?_alloc_mark]
  simpa using hj) (plL_one x) (by unfold maxLen; omega) (by omega) (by simp; omega)
 rw [plC_snoc] at hown'
 obtain ⟨a', c', rfl⟩ : ∃ a' c', v' = .slice a' (n + 1) c' := by
  rcases hown'.2 with ⟨hv, hn⟩ | ⟨g, cap, cur, hv, _⟩
  ·omega
  ·exact ⟨_, _, hv⟩
 exact ⟨a', c', w', hrun, hown', ((Below.refl base W).alloc hb _).grown hgrow (by simp; omega) (fun k hk => (h.lt k hk).1), hgrow⟩
/-! ### Small functions -/
theorem roomK_none {b : Int} (h : ¬ b ∈ PowR) : roomK b = 0 := by unfold roomK; rw [if_neg h]
theorem khead_of (w : World) : Calls Tryz.prog 160 #[] w fun e w' => e = .returned (.slice (some ⟨w.heap.size, 0, none⟩) 6 6) ∧ w' = w.alloc (.cells #[.int .i64 4, .int .i64 4, .int .i64 4, .int .i64 4, .int .i64 8, .int .i64 2] 3) := by
 go_enter Tryz.func160, Tryz.ntmps160
 go_wp2
 go_ret
 exact ⟨rfl, rfl⟩
theorem kplaceW_of (w : World) : Calls Tryz.prog 194 #[] w fun e w' => e = .returned (.slice (some ⟨w.heap.size, 0, none⟩) 4 4) ∧ w' = w.alloc (.cells #[.int .i64 4, .int .i64 8, .int .i64 2, .int .i64 2] 3) := by
 go_enter Tryz.func194, Tryz.ntmps194
 go_wp2
 go_ret
 exact ⟨rfl, rfl⟩
theorem nin_hk {w : World} {g : Nat} (h : w.heap.size = g) : NIn .i64 (w.alloc (.cells #[.int .i64 4, .int .i64 4, .int .i64 4, .int .i64 4, .int .i64 8, .int .i64 2] 3)) (some ⟨g, 0, none⟩) 6 hkW := nin_lit 3 h rfl rfl rfl (by omega)
theorem nin_pl {w : World} {g : Nat} (h : w.heap.size = g) : NIn .i64 (w.alloc (.cells #[.int .i64 4, .int .i64 8, .int .i64 2, .int .i64 2] 3)) (some ⟨g, 0, none⟩) 4 plW := nin_lit 3 h rfl rfl rfl (by omega)
theorem hkV_fits {i m s n : Int} (hi : FitsU i) (hm : FitsU m) (hs : FitsU s) (hn : FitsU n) : ∀ z ∈ hkV i m s n, FitsU z := by
 intro z hz
 simp only [hkV, List.mem_cons, List.not_mem_nil, or_false] at hz
 rcases hz with rfl | rfl | rfl | rfl | rfl | rfl
 ·unfold FitsU; omega
 ·unfold FitsU; omega
 ·exact hi
 ·exact hm
 ·exact hs
 ·exact hn
theorem lit_hk {i m s n : Int} (hi : FitsU i) (hm : FitsU m) (hs : FitsU s) (hn : FitsU n) : ∀ (X : World) (g : Nat), X.heap.size = g → NIn .u64 (X.alloc (.cells #[.int .u64 1129009236, .int .u64 0, .int .u64 i, .int .u64 m, .int .u64 s, .int .u64 n] 36)) (some ⟨g, 0, none⟩) 6 (hkV i m s n) :=
 fun X g e => nin_litU 36 e rfl rfl (hkV_fits hi hm hs hn) (by omega)
theorem plV_fits {x : Pl} (h : Fit2 x) : ∀ z ∈ plV x, FitsU z := by
 obtain ⟨⟨h1, h2⟩, h3, h4⟩ := h
 intro z hz
 unfold Fits32 at h1
 unfold Fits16 at h3 h4
 simp only [plV, List.mem_cons, List.not_mem_nil, or_false] at hz
 rcases hz with rfl | rfl | rfl | rfl
 ·unfold FitsU; omega
 ·exact h2
 ·unfold FitsU; omega
 ·unfold FitsU; omega
theorem lit_pl {x : Pl} (h : Fit2 x) : ∀ (X : World) (g : Nat), X.heap.size = g → NIn .u64 (X.alloc (.cells #[.int .u64 x.1.1, .int .u64 x.1.2, .int .u64 x.2.1, .int .u64 x.2.2] 36)) (some ⟨g, 0, none⟩) 4 (plV x) :=
 fun X g e => nin_litU 36 e rfl rfl (plV_fits h) (by omega)
set_option maxHeartbeats 1000000 in
theorem kroom_of (b : Int) (w : World) : Calls Tryz.prog 102 #[.int .i64 b] w fun e w' => e = .returned (.int .i64 (roomK b)) ∧ w' = w := by
 obtain ⟨R, hR⟩ : ∃ R, R = roomK b := ⟨_, rfl⟩
 rw [← hR]
 by_cases h1 : b < 64
 ·have hf : R = 0 := by rw [hR]; exact roomK_none (fun h => by have := pow_bounds h; omega)
  clear hR
  subst hf
  go_enter Tryz.func102, Tryz.ntmps102
  go_wp2
  go_ret
  exact ⟨rfl, rfl⟩
 ·have h1' : 64 ≤ b := by omega
  by_cases h2 : 4096 < b
  ·have hf : R = 0 := by rw [hR]; exact roomK_none (fun h => by have := pow_bounds h; omega)
   clear hR
   subst hf
   clear h1
   go_enter Tryz.func102, Tryz.ntmps102
   go_wp2
   go_ret
   exact ⟨rfl, rfl⟩
  ·have h2' : b ≤ 4096 := by omega
   clear h1 h2
   have hw : IntKind.i64.wrap (b - 1) = b - 1 := by rw [IntKind.wrap_i64]; omega
   have hw2 : IntKind.i64.wrap (b - 26) = b - 26 := by rw [IntKind.wrap_i64]; omega
   have hw3 : IntKind.i64.wrap (b - 26 - 1) = b - 26 - 1 := by rw [IntKind.wrap_i64]; omega
   by_cases hp : b ∈ PowR
   ·have hand := (and_ofR h1' h2').2 hp
    have hf : R = (b - 26 - 1) / 16 := by rw [hR]; unfold roomK; rw [if_pos hp]; congr 1; omega
    clear hR hp
    subst hf
    go_enter Tryz.func102, Tryz.ntmps102
    go_wp2
    go_ret
    exact ⟨rfl, rfl⟩
   ·have hand : (bits BinOp.and IntKind.i64 b (b - 1) != 0) = true := by simp; exact fun h => hp ((and_ofR h1' h2').1 h)
    have hf : R = 0 := by rw [hR]; exact roomK_none hp
    clear hR hp
    subst hf
    go_enter Tryz.func102, Tryz.ntmps102
    go_wp2
    go_ret
    exact ⟨rfl, rfl⟩
set_option maxHeartbeats 1000000 in
theorem kinLog_of (s : Sh) (z b : Int) (w : World) : Calls Tryz.prog 156 #[.agg (shL s).toArray, .agg #[.int .i64 z, .int .i64 b]] w fun e w' => e = .returned (.bool (decide (2 ≤ z ∧ z < s.z ∧ 0 ≤ b ∧ b < s.zb))) ∧ Below w.heap.size w w' := by
 obtain ⟨sz, szb, sb, sr⟩ := s
 dsimp only
 obtain ⟨B, hB⟩ : ∃ B, B = decide (2 ≤ z ∧ z < sz ∧ 0 ≤ b ∧ b < szb) := ⟨_, rfl⟩
 rw [← hB]
 have bw : Hid (∀ o o', Below w.heap.size w ((w.alloc o).alloc o')) := fun o o' => ((Below.refl _ _).alloc (Nat.le_refl _) o).alloc (by simp) o'
 simp only [shL]
 by_cases h1 : 2 ≤ z
 ·by_cases h2 : z < sz
  ·by_cases h3 : 0 ≤ b
   ·have hf : B = decide (b < szb) := by rw [hB]; simp [h1, h2, h3]
    clear hB
    subst hf
    go_enter Tryz.func156, Tryz.ntmps156
    go_wp2
    go_ret
    exact ⟨rfl, bw.out _ _⟩
   ·have hf : B = false := by rw [hB]; simp [h3]
    clear hB
    subst hf
    have h3' : b < 0 := by omega
    clear h3
    go_enter Tryz.func156, Tryz.ntmps156
    go_wp2
    go_ret
    exact ⟨rfl, bw.out _ _⟩
  ·have hf : B = false := by rw [hB]; simp [h2]
   clear hB
   subst hf
   have h2' : sz ≤ z := by omega
   clear h2
   go_enter Tryz.func156, Tryz.ntmps156
   go_wp2
   go_ret
   exact ⟨rfl, bw.out _ _⟩
 ·have hf : B = false := by rw [hB]; simp [h1]
  clear hB
  subst hf
  have h1' : z < 2 := by omega
  clear h1
  go_enter Tryz.func156, Tryz.ntmps156
  go_wp2
  go_ret
  exact ⟨rfl, bw.out _ _⟩
set_option maxHeartbeats 1000000 in
theorem krises_of (p q : Pl) (w : World) : Calls Tryz.prog 157 #[.agg (plL p).toArray, .agg (plL q).toArray] w fun e w' => e = .returned (.bool (ltP p.1 q.1)) ∧ Below w.heap.size w w' := by
 obtain ⟨⟨t, b⟩, z, y⟩ := p
 obtain ⟨⟨t', b'⟩, z', y'⟩ := q
 dsimp only
 obtain ⟨B, hB⟩ : ∃ B, B = ltP (t, b) (t', b') := ⟨_, rfl⟩
 rw [← hB]
 have bw : Hid (∀ o o', Below w.heap.size w ((w.alloc o).alloc o')) := fun o o' => ((Below.refl _ _).alloc (Nat.le_refl _) o).alloc (by simp) o'
 simp only [plL]
 by_cases h1 : t = t'
 ·subst h1
  have hf : B = decide (b < b') := by rw [hB]; simp [ltP]
  clear hB
  subst hf
  go_enter Tryz.func157, Tryz.ntmps157
  go_wp2
  go_ret
  exact ⟨rfl, bw.out _ _⟩
 ·have hf : B = decide (t < t') := by rw [hB]; simp [ltP, h1]
  clear hB
  subst hf
  have h1' : (t != t') = true := by simp [h1]
  go_enter Tryz.func157, Tryz.ntmps157
  go_wp2
  go_ret
  exact ⟨rfl, bw.out _ _⟩
theorem Tryz.info_place : (Tryz.prog.info? 131).map (·.size) = some 4 := by kernel_rfl
def pl0 : Pl := ((0, 0), (0, 0))
set_option maxHeartbeats 1000000 in
theorem kplace_of (b c : Nat) (x : Pl) (w : World) (c0 : w.cell? ⟨b, 0, none⟩ = some (.int .u64 x.1.1)) (c1 : w.cell? ⟨b, 1, none⟩ = some (.int .u64 x.1.2)) (c2 : w.cell? ⟨b, 2, none⟩ = some (.int .u64 x.2.1)) (c3 : w.cell? ⟨b, 3, none⟩ = some (.int .u64 x.2.2)) (hr : Fit2 x) :
  Calls Tryz.prog 193 #[.slice (some ⟨b, 0, none⟩) 4 c] w fun e w' => e = .returned (.agg #[.int .u32 x.1.1, .int .u64 x.1.2, .int .i64 x.2.1, .int .i64 x.2.2]) ∧ Below w.heap.size w w' := by
 obtain ⟨q, hq⟩ : ∃ q, q = w.heap.size := ⟨_, rfl⟩
 obtain ⟨⟨t, bb⟩, z, y⟩ := x
 obtain ⟨⟨⟨f0, f1⟩, _⟩, ⟨k0, k1⟩, ⟨s0, s1⟩⟩ := hr
 dsimp only at c0 c1 c2 c3 f0 f1 k0 k1 s0 s1 ⊢
 have u0 : IntKind.u32.wrap t = t := by rw [IntKind.wrap_u32]; omega
 have u2 : IntKind.i64.wrap z = z := by rw [IntKind.wrap_i64]; omega
 have u3 : IntKind.i64.wrap y = y := by rw [IntKind.wrap_i64]; omega
 clear f0 f1 k0 k1 s0 s1
 have b0 : Blk (w.alloc (.cells #[.int .u32 0, .int .u64 0, .int .i64 0, .int .i64 0] 131)) q (plL pl0) 131 := Blk.new' hq.symm rfl
 have bw : Below q w (w.alloc (.cells #[.int .u32 0, .int .u64 0, .int .i64 0, .int .i64 0] 131)) := (Below.refl _ _).alloc (by omega) _
 have HQ : Hid (q = w.heap.size) := hq
 rw [← hq]
 go_enter Tryz.func193, Tryz.ntmps193
 go_upto_region 1 with fail
 rw [← hq]
 have bne : b ≠ q := by have := old_block c0; have := HQ.out; simp only at *; omega
 have c0' := (bw.cell (by rw [hq]; exact old_block c0)).trans c0
 have c1' := (bw.cell (by rw [hq]; exact old_block c1)).trans c1
 have c2' := (bw.cell (by rw [hq]; exact old_block c2)).trans c2
 have c3' := (bw.cell (by rw [hq]; exact old_block c3)).trans c3
 clear c0 c1 c2 c3 hq
 generalize hW : World.alloc w _ = W at c0' c1' c2' c3' b0 bw ⊢
 clear hW
 have e0 : W.cell? ⟨q, 0, none⟩ = some (.int .u32 0) := b0.cell 0
 have e1 : W.cell? ⟨q, 1, none⟩ = some (.int .u64 0) := b0.cell 1
 have e2 : W.cell? ⟨q, 2, none⟩ = some (.int .i64 0) := b0.cell 2
 have e3 : W.cell? ⟨q, 3, none⟩ = some (.int .i64 0) := b0.cell 3
 have z0 := b0.frozen 0
 have z1 := b0.frozen 1
 have z2 := b0.frozen 2
 have z3 := b0.frozen 3
 have qne : q ≠ b := fun e => bne e.symm
 have HB : Hid (Blk W q (plL pl0) 131 ∧ Below q w W) := ⟨b0, bw⟩
 clear b0 bw
 go_wp2
 go_region
 go_wp2
 have b3 : Blk ((((W.setCell ⟨q, 0, none⟩ (.int .u32 t)).setCell ⟨q, 1, none⟩ (.int .u64 bb)).setCell ⟨q, 2, none⟩ (.int .i64 z)).setCell ⟨q, 3, none⟩ (.int .i64 y)).drew q (plL ((t, bb), (z, y))) 131 := (HB.out.1.setAll (vs := plL ((t, bb), (z, y))) (by rfl)).drew
 exact bodyPost_ret (v := .agg (plL ((t, bb), (z, y))).toArray) (results_cell_one (p := 2) (ty := 131) rfl _ _ q _ _ _ rfl b3 Tryz.underlying131 rfl Tryz.info_place) rfl ⟨rfl, (((((HB.out.2.setCell (Nat.le_refl _) _).setCell (Nat.le_refl _) _).setCell (Nat.le_refl _) _).setCell (Nat.le_refl _) _)).drew⟩
end Go.Proofs.YtcdnjeiamihhbabGreat
