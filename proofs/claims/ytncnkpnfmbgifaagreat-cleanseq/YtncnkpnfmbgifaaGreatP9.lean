/- Texts of this seat, one behind the other: CkTake, CkIn, CkSmall, CkCheck. -/
import Derived.Test.YtncnkpnfmbgifaaGreatP8
import Derived.BigQuiet
import Derived.Deep.RegionHeld3
import Derived.Lib.QuietBelow
/- What one call of ckpt's reader's take does. -/
namespace Go.Proofs.YtncnkpnfmbgifaaGreat
open Go.RowKit
set_option linter.unusedVariables false
set_option maxRecDepth 4000

def noBk : ByteArray := ⟨#[99, 107, 112, 116, 58, 32, 116, 104, 101, 32, 115, 116, 97, 116, 101, 32, 104, 97, 115, 32, 110, 111, 32, 98, 108, 111, 99, 107, 115]⟩
end Go.Proofs.YtncnkpnfmbgifaaGreat

/- Places in memory; the room of a block, widths, is a place one of the log's, does it stand above another one. -/
namespace Go.Proofs.YtncnkpnfmbgifaaGreat
open Go.RowKit
set_option linter.unusedVariables false
set_option maxRecDepth 4000

def plL (p : Pl) : List Value := [.int .u32 p.1.1, .int .u64 p.1.2, .int .i64 p.2.1, .int .i64 p.2.2]
def KIn (w : World) (a : Option Addr) (n : Nat) (ps : List Pl) : Prop :=
 ps.length = n ∧ n ≤ maxLen ∧ (∀ p ∈ ps, FitsP p) ∧ (n = 0 ∨ ∃ b off, a = some ⟨b, off, none⟩ ∧ ∀ (i : Nat) (x : Pl), ps[i]? = some x → ∀ (j : Nat) (v : Value), (plL x)[j]? = some v → w.cell? ⟨b, off + i * 4 + j, none⟩ = some v)
theorem KIn.below {w w' : World} {a : Option Addr} {n : Nat} {ps : List Pl} (h : KIn w a n ps) (hb : Below w.heap.size w w') : KIn w' a n ps := by
 obtain ⟨h1, h2, h3, h4⟩ := h
 refine ⟨h1, h2, h3, ?_⟩
 rcases h4 with h4 | ⟨b, off, ha, hc⟩
 ·exact .inl h4
 ·exact .inr ⟨b, off, ha, fun i x hx j v hv => by rw [hb.cell (old_block (hc i x hx j v hv))]; exact hc i x hx j v hv⟩
theorem KIn.drew {w : World} {a : Option Addr} {n : Nat} {ps : List Pl} (h : KIn w a n ps) : KIn w.drew a n ps := h
theorem kin_none (w : World) : KIn w none 0 [] := ⟨rfl, Nat.zero_le _, by simp, .inl rfl⟩
theorem KIn.cells {w w' : World} {a : Option Addr} {n : Nat} {ps : List Pl} (h : KIn w a n ps) (hc : ∀ b o v, a.map (·.block) = some b → w.cell? ⟨b, o, none⟩ = some v → w'.cell? ⟨b, o, none⟩ = some v) : KIn w' a n ps := by
 obtain ⟨h1, h2, h3, h4⟩ := h
 refine ⟨h1, h2, h3, ?_⟩
 rcases h4 with h4 | ⟨b, off, ha, hh⟩
 ·exact .inl h4
 ·exact .inr ⟨b, off, ha, fun i x hx j v hv => hc b _ v (by rw [ha]; rfl) (hh i x hx j v hv)⟩
theorem KIn.part {w : World} {b off n : Nat} {ps : List Pl} (h : KIn w (some ⟨b, off, none⟩) n ps) (i m : Nat) (hik : i + m ≤ n) : KIn w (some ⟨b, off + i * 4, none⟩) m ((ps.drop i).take m) := by
 obtain ⟨h1, h2, h3, h4⟩ := h
 refine ⟨by rw [List.length_take, List.length_drop]; omega, by omega, fun p hp => h3 p (List.mem_of_mem_drop (List.mem_of_mem_take hp)), ?_⟩
 by_cases h0 : m = 0
 ·exact .inl h0
 ·obtain ⟨b', off', e, hc⟩ := h4.resolve_left (by omega)
  cases e
  refine .inr ⟨_, _, rfl, fun k x hx j v hv => ?_⟩
  have hk : k < m := by have := (List.getElem?_eq_some_iff.1 hx).1; rw [List.length_take] at this; omega
  rw [List.getElem?_take_of_lt hk, List.getElem?_drop] at hx
  have := hc (i + k) x hx j v hv
  rw [show off + (i + k) * 4 + j = off + i * 4 + k * 4 + j by omega] at this
  exact this
theorem KIn.front {w : World} {a : Option Addr} {n : Nat} {ps : List Pl} (h : KIn w a n ps) (m : Nat) (hm : m ≤ n) : KIn w a m (ps.take m) := by
 by_cases h0 : m = 0
 ·subst h0
  exact ⟨by simp, Nat.zero_le _, by simp, .inl rfl⟩
 ·obtain ⟨b, off, rfl, _⟩ := h.2.2.2.resolve_left (by omega)
  simpa using h.part 0 m (by omega)
def kleft (a : Option Addr) (c i : Nat) : Option Addr := if c = i then a else a.map (·.add (i * 4))
theorem KIn.back {w : World} {a : Option Addr} {n c : Nat} {ps : List Pl} (h : KIn w a n ps) (i : Nat) (hi : i ≤ n) (hc : n ≤ c) : KIn w (kleft a c i) (n - i) (ps.drop i) := by
 by_cases h0 : n - i = 0
 ·exact ⟨by rw [List.length_drop, h.1], by omega, fun p hp => h.2.2.1 p (List.mem_of_mem_drop hp), .inl h0⟩
 ·obtain ⟨b, off, rfl, _⟩ := h.2.2.2.resolve_left (by omega)
  unfold kleft
  rw [if_neg (by have := h.2.1; omega)]
  have := h.part i (n - i) (by omega)
  rw [List.take_of_length_le (by rw [List.length_drop, h.1]; exact Nat.le_refl _)] at this
  simpa [Addr.add_mid] using this
theorem Tryz.four_places : ∀ w : World, (sizeOf (Tryz.prog.elem 38)).run Tryz.prog w = .ok 4 w := fun _ => by kernel_rfl
theorem kslice_front (a : Option Addr) (n c k : Nat) (hk : k ≤ c) (w : World) :
  (Instr.slice 38 (.slice a n c) none (some (.int .i64 (k : Int))) none).run Tryz.prog w = .ok (.slice a k c) w := by
 rw [run_slice_h (P := Tryz.prog) w 38 a n c Tryz.underlying38 .i64 k (by omega) (by omega), Tryz.four_places w]
 simp only [Result.andThen, Int.toNat_natCast]
 unfold sliced
 cases a with
 | none => simp
 | some x => simp [Addr.add]
theorem kslice_back (a : Option Addr) (n c k : Nat) (hk : k ≤ n) (w : World) :
  (Instr.slice 38 (.slice a n c) (some (.int .i64 (k : Int))) none none).run Tryz.prog w = .ok (.slice (kleft a c k) (n - k) (c - k)) w := by
 rw [run_slice_l (P := Tryz.prog) w 38 a n c Tryz.underlying38 .i64 k (by omega) (by omega), Tryz.four_places w]
 simp only [Result.andThen, Int.toNat_natCast]
 rfl
def plC (xs : List Pl) : List Value := xs.flatMap plL
theorem plC_length (xs : List Pl) : (plC xs).length = xs.length * 4 := by
 unfold plC
 induction xs with
 | nil => rfl
 | cons x r ih => rw [List.flatMap_cons, List.length_append, ih, List.length_cons]; simp [plL]; omega
theorem plC_snoc (xs : List Pl) (x : Pl) : plC xs ++ plL x = plC (xs ++ [x]) := by simp [plC]
theorem plC_at : ∀ (xs : List Pl) (i : Nat) (x : Pl) (j : Nat), xs[i]? = some x → j < 4 → (plC xs)[i * 4 + j]? = (plL x)[j]?
 | [], i, x, j, h, _ => by simp at h
 | y :: r, 0, x, j, h, hj => by
  have : y = x := by simpa using h
  subst this
  rw [plC, List.flatMap_cons, Nat.zero_mul, Nat.zero_add, List.getElem?_append_left (by simp [plL]; omega)]
 | y :: r, i + 1, x, j, h, hj => by
  have h' : r[i]? = some x := by simpa using h
  rw [plC, List.flatMap_cons, List.getElem?_append_right (by simp [plL]; omega)]
  have : (i + 1) * 4 + j - (plL y).length = i * 4 + j := by simp [plL]; omega
  rw [this]
  exact plC_at r i x j h' hj
theorem plL_one (x : Pl) : ∀ v ∈ plL x, v.oneCell' = true := by
 intro v hv; simp only [plL, List.mem_cons, List.not_mem_nil, or_false] at hv; rcases hv with rfl | rfl | rfl | rfl <;> rfl
theorem own_kin {W : World} {base : Nat} {a : Option Addr} {n c : Nat} {xs : List Pl} (h : W.ownsRow base 51 4 (.slice a n c) n (plC xs)) (hm : n ≤ maxLen) (hf : ∀ x ∈ xs, FitsP x) : KIn W a n xs := by
 have hl : xs.length = n := by have := h.1; rw [plC_length] at this; omega
 refine ⟨hl, hm, hf, ?_⟩
 rcases h.2 with ⟨hv, hn⟩ | ⟨g, cap, cur, hv, hb, hg, hc, hcm, hsz, htake⟩
 ·exact .inl hn
 ·cases hv
  refine .inr ⟨g, 0, rfl, fun i x hx j v hv => ?_⟩
  have hj : j < 4 := (List.getElem?_eq_some_iff.1 hv).1
  have hcl := h.cells (g := g) rfl (i * 4 + j) v (by rw [plC_at xs i x j hx hj]; exact hv)
  rw [Addr.add_mid] at hcl
  rw [Nat.add_assoc]
  exact hcl
theorem Tryz.zero_place : (Tryz.prog.info? 51).map (fun i => (i.zero, i.size, i.bytes)) = some (some (.agg #[.int .u32 0, .int .u64 0, .int .i64 0, .int .i64 0]), 4, 32) := by kernel_rfl
theorem roomK_none {b : Int} (h : ¬ b ∈ PowR) : roomK b = 0 := by unfold roomK; rw [if_neg h]
theorem khead_of (w : World) : Calls Tryz.prog 206 #[] w fun e w' => e = .returned (.slice (some ⟨w.heap.size, 0, none⟩) 6 6) ∧ w' = w.alloc (.cells #[.int .i64 4, .int .i64 4, .int .i64 4, .int .i64 4, .int .i64 8, .int .i64 2] 3) := by
 go_enter Tryz.func206, Tryz.ntmps206
 go_wp2
 go_ret
 exact ⟨rfl, rfl⟩
theorem kplaceW_of (w : World) : Calls Tryz.prog 223 #[] w fun e w' => e = .returned (.slice (some ⟨w.heap.size, 0, none⟩) 4 4) ∧ w' = w.alloc (.cells #[.int .i64 4, .int .i64 8, .int .i64 2, .int .i64 2] 3) := by
 go_enter Tryz.func223, Tryz.ntmps223
 go_wp2
 go_ret
 exact ⟨rfl, rfl⟩
theorem nin_hk {w : World} {g : Nat} (h : w.heap.size = g) : NIn .i64 (w.alloc (.cells #[.int .i64 4, .int .i64 4, .int .i64 4, .int .i64 4, .int .i64 8, .int .i64 2] 3)) (some ⟨g, 0, none⟩) 6 hkW := nin_lit 3 h rfl rfl rfl (by omega)
theorem nin_pl {w : World} {g : Nat} (h : w.heap.size = g) : NIn .i64 (w.alloc (.cells #[.int .i64 4, .int .i64 8, .int .i64 2, .int .i64 2] 3)) (some ⟨g, 0, none⟩) 4 plW := nin_lit 3 h rfl rfl rfl (by omega)
theorem hkV_fits {i m s n : Int} (hi : FitsU i) (hm : FitsU m) (hs : FitsU s) (hn : FitsU n) : ∀ z ∈ hkV i m s n, FitsU z := by
 intro z hz
 simp only [hkV, List.mem_cons, List.not_mem_nil, or_false] at hz
 rcases hz with rfl | rfl | rfl | rfl | rfl | rfl
 ·unfold FitsU; omega
 ·unfold FitsU; omega
 ·exact hi
 ·exact hm
 ·exact hs
 ·exact hn
theorem lit_hk {i m s n : Int} (hi : FitsU i) (hm : FitsU m) (hs : FitsU s) (hn : FitsU n) : ∀ (X : World) (g : Nat), X.heap.size = g → NIn .u64 (X.alloc (.cells #[.int .u64 1129009236, .int .u64 0, .int .u64 i, .int .u64 m, .int .u64 s, .int .u64 n] 47)) (some ⟨g, 0, none⟩) 6 (hkV i m s n) :=
 fun X g e => nin_litU 47 e rfl rfl (hkV_fits hi hm hs hn) (by omega)
theorem plV_fits {x : Pl} (h : Fit2 x) : ∀ z ∈ plV x, FitsU z := by
 obtain ⟨⟨h1, h2⟩, h3, h4⟩ := h
 intro z hz
 unfold Fits32 at h1
 unfold Fits16 at h3 h4
 simp only [plV, List.mem_cons, List.not_mem_nil, or_false] at hz
 rcases hz with rfl | rfl | rfl | rfl
 ·unfold FitsU; omega
 ·exact h2
 ·unfold FitsU; omega
 ·unfold FitsU; omega
theorem lit_pl {x : Pl} (h : Fit2 x) : ∀ (X : World) (g : Nat), X.heap.size = g → NIn .u64 (X.alloc (.cells #[.int .u64 x.1.1, .int .u64 x.1.2, .int .u64 x.2.1, .int .u64 x.2.2] 47)) (some ⟨g, 0, none⟩) 4 (plV x) :=
 fun X g e => nin_litU 47 e rfl rfl (plV_fits h) (by omega)
set_option maxHeartbeats 1000000 in
theorem kroom_of (b : Int) (w : World) : Calls Tryz.prog 176 #[.int .i64 b] w fun e w' => e = .returned (.int .i64 (roomK b)) ∧ w' = w := by
 obtain ⟨R, hR⟩ : ∃ R, R = roomK b := ⟨_, rfl⟩
 rw [← hR]
 by_cases h1 : b < 64
 ·have hf : R = 0 := by rw [hR]; exact roomK_none (fun h => by have := pow_bounds h; omega)
  clear hR
  subst hf
  go_enter Tryz.func176, Tryz.ntmps176
  go_wp2
  go_ret
  exact ⟨rfl, rfl⟩
 ·have h1' : 64 ≤ b := by omega
  by_cases h2 : 4096 < b
  ·have hf : R = 0 := by rw [hR]; exact roomK_none (fun h => by have := pow_bounds h; omega)
   clear hR
   subst hf
   clear h1
   go_enter Tryz.func176, Tryz.ntmps176
   go_wp2
   go_ret
   exact ⟨rfl, rfl⟩
  ·have h2' : b ≤ 4096 := by omega
   clear h1 h2
   have hw : IntKind.i64.wrap (b - 1) = b - 1 := by rw [IntKind.wrap_i64]; omega
   have hw2 : IntKind.i64.wrap (b - 26) = b - 26 := by rw [IntKind.wrap_i64]; omega
   have hw3 : IntKind.i64.wrap (b - 26 - 1) = b - 26 - 1 := by rw [IntKind.wrap_i64]; omega
   by_cases hp : b ∈ PowR
   ·have hand := (and_ofR h1' h2').2 hp
    have hf : R = (b - 26 - 1) / 16 := by rw [hR]; unfold roomK; rw [if_pos hp]; congr 1; omega
    clear hR hp
    subst hf
    go_enter Tryz.func176, Tryz.ntmps176
    go_wp2
    go_ret
    exact ⟨rfl, rfl⟩
   ·have hand : (bits BinOp.and IntKind.i64 b (b - 1) != 0) = true := by simp; exact fun h => hp ((and_ofR h1' h2').1 h)
    have hf : R = 0 := by rw [hR]; exact roomK_none hp
    clear hR hp
    subst hf
    go_enter Tryz.func176, Tryz.ntmps176
    go_wp2
    go_ret
    exact ⟨rfl, rfl⟩
end Go.Proofs.YtncnkpnfmbgifaaGreat

/- What one call of ckpt's inLog, rises and place does. -/
namespace Go.Proofs.YtncnkpnfmbgifaaGreat
open Go.RowKit
set_option linter.unusedVariables false
set_option maxRecDepth 4000

set_option maxHeartbeats 1000000 in
theorem kinLog_of (s : Sh) (z b : Int) (w : World) : Calls Tryz.prog 202 #[.agg (shL s).toArray, .agg #[.int .i64 z, .int .i64 b]] w fun e w' => e = .returned (.bool (decide (2 ≤ z ∧ z < s.z ∧ 0 ≤ b ∧ b < s.zb))) ∧ Below w.heap.size w w' := by
 obtain ⟨sz, szb, sb, sr⟩ := s
 dsimp only
 obtain ⟨B, hB⟩ : ∃ B, B = decide (2 ≤ z ∧ z < sz ∧ 0 ≤ b ∧ b < szb) := ⟨_, rfl⟩
 rw [← hB]
 have bw : Hid (∀ o o', Below w.heap.size w ((w.alloc o).alloc o')) := fun o o' => ((Below.refl _ _).alloc (Nat.le_refl _) o).alloc (by simp) o'
 simp only [shL]
 by_cases h1 : 2 ≤ z
 ·by_cases h2 : z < sz
  ·by_cases h3 : 0 ≤ b
   ·have hf : B = decide (b < szb) := by rw [hB]; simp [h1, h2, h3]
    clear hB
    subst hf
    go_enter Tryz.func202, Tryz.ntmps202
    go_wp2
    go_ret
    exact ⟨rfl, bw.out _ _⟩
   ·have hf : B = false := by rw [hB]; simp [h3]
    clear hB
    subst hf
    have h3' : b < 0 := by omega
    clear h3
    go_enter Tryz.func202, Tryz.ntmps202
    go_wp2
    go_ret
    exact ⟨rfl, bw.out _ _⟩
  ·have hf : B = false := by rw [hB]; simp [h2]
   clear hB
   subst hf
   have h2' : sz ≤ z := by omega
   clear h2
   go_enter Tryz.func202, Tryz.ntmps202
   go_wp2
   go_ret
   exact ⟨rfl, bw.out _ _⟩
 ·have hf : B = false := by rw [hB]; simp [h1]
  clear hB
  subst hf
  have h1' : z < 2 := by omega
  clear h1
  go_enter Tryz.func202, Tryz.ntmps202
  go_wp2
  go_ret
  exact ⟨rfl, bw.out _ _⟩
set_option maxHeartbeats 1000000 in
theorem krises_of (p q : Pl) (w : World) : Calls Tryz.prog 203 #[.agg (plL p).toArray, .agg (plL q).toArray] w fun e w' => e = .returned (.bool (ltP p.1 q.1)) ∧ Below w.heap.size w w' := by
 obtain ⟨⟨t, b⟩, z, y⟩ := p
 obtain ⟨⟨t', b'⟩, z', y'⟩ := q
 dsimp only
 obtain ⟨B, hB⟩ : ∃ B, B = ltP (t, b) (t', b') := ⟨_, rfl⟩
 rw [← hB]
 have bw : Hid (∀ o o', Below w.heap.size w ((w.alloc o).alloc o')) := fun o o' => ((Below.refl _ _).alloc (Nat.le_refl _) o).alloc (by simp) o'
 simp only [plL]
 by_cases h1 : t = t'
 ·subst h1
  have hf : B = decide (b < b') := by rw [hB]; simp [ltP]
  clear hB
  subst hf
  go_enter Tryz.func203, Tryz.ntmps203
  go_wp2
  go_ret
  exact ⟨rfl, bw.out _ _⟩
 ·have hf : B = decide (t < t') := by rw [hB]; simp [ltP, h1]
  clear hB
  subst hf
  have h1' : (t != t') = true := by simp [h1]
  go_enter Tryz.func203, Tryz.ntmps203
  go_wp2
  go_ret
  exact ⟨rfl, bw.out _ _⟩
theorem Tryz.info_place : (Tryz.prog.info? 51).map (·.size) = some 4 := by kernel_rfl
def pl0 : Pl := ((0, 0), (0, 0))
end Go.Proofs.YtncnkpnfmbgifaaGreat

/- What one call of ckpt's check does. -/
namespace Go.Proofs.YtncnkpnfmbgifaaGreat
open Go.RowKit
set_option linter.unusedVariables false
set_option maxRecDepth 4000

def CheckE (w : World) (s : Sh) (ps : List Pl) (e : Ending) (w' : World) : Prop :=
 Below w.heap.size w w' ∧ ((¬ GoodK s ps ∧ e = diedE noBk) ∨ (GoodK s ps ∧ e = .returned (.tuple #[])))
def Upto (s : Sh) (ps : List Pl) (i : Nat) : Prop := (∀ k p q, k + 1 < i → ps[k]? = some p → ps[k + 1]? = some q → ltP p.1 q.1 = true) ∧ ∀ k p, k < i → ps[k]? = some p → InSh s p
theorem Upto.next {s : Sh} {ps : List Pl} {i : Nat} {p : Pl} (h : Upto s ps i) (hp : ps[i]? = some p) (h1 : InSh s p) (h2 : ∀ o, 0 < i → ps[i - 1]? = some o → ltP o.1 p.1 = true) : Upto s ps (i + 1) := by
 refine ⟨fun k x y hk hx hy => ?_, fun k x hk hx => ?_⟩
 ·rcases Nat.lt_or_ge (k + 1) i with h' | h'
  ·exact h.1 k x y h' hx hy
  ·obtain rfl : i = k + 1 := by omega
   rw [hp] at hy; cases hy
   exact h2 x (by omega) (by simpa using hx)
 ·rcases Nat.lt_or_ge k i with h' | h'
  ·exact h.2 k x h' hx
  ·obtain rfl : k = i := by omega
   rw [hp] at hx; cases hx
   exact h1
theorem Upto.all {s : Sh} {ps : List Pl} (hr : RightS s) (h : Upto s ps ps.length) : GoodK s ps := by
 refine ⟨hr, fun i p q hp hq => h.1 i p q (List.getElem?_eq_some_iff.1 hq).1 hp hq, fun p hp => ?_⟩
 obtain ⟨k, hk⟩ := List.getElem?_of_mem hp
 exact h.2 k p (List.getElem?_eq_some_iff.1 hk).1 hk
theorem wpQuiet_eq {P : Program} {ops : Array Oper} {C : World → Prop} {Q : Act → Prop} {o : Oper} {rest : List Oper} {a : Act} : wpQuiet P ops C Q (o :: rest) a = if Region.wanted o (yielded ops a.tmps) = true then o.quiet P a C (wpQuiet P ops C Q rest) else wpQuiet P ops C Q rest (a.put o.dst undef) := rfl
set_option maxHeartbeats 4000000 in
theorem kcheck_of (s : Sh) (A : Option Addr) (n C : Nat) (ps : List Pl) (w : World) (hz : -9223372036854775808 ≤ s.z) (hk : KIn w A n ps) :
  Calls Tryz.prog 175 #[.agg (shL s).toArray, .slice A n C] w (CheckE w s ps) := by
 obtain ⟨q, hq⟩ : ∃ q, q = w.heap.size := ⟨_, rfl⟩
 have H : Hid (KIn w A n ps ∧ q = w.heap.size) := ⟨hk, hq⟩
 have hm : n ≤ 9223372036854775807 := by have := hk.2.1; unfold maxLen at this; omega
 have hb : Blk (w.alloc (.cells #[.int .i64 s.z, .int .i64 s.zb, .int .i64 s.b, .int .i64 s.r] 23)) q (shL s) 23 := Blk.new' hq.symm rfl
 have hbel : Below w.heap.size w (w.alloc (.cells #[.int .i64 s.z, .int .i64 s.zb, .int .i64 s.b, .int .i64 s.r] 23)) := (Below.refl _ _).alloc (Nat.le_refl _) _
 simp only [shL]
 go_enter Tryz.func175, Tryz.ntmps175
 go_upto_region 1 with fail
 rw [← hq]
 generalize hW1 : World.alloc _ _ = W1 at *
 have HR : Hid (Calls Tryz.prog 115 #[.agg #[.int .i64 s.z, .int .i64 s.zb, .int .i64 s.b, .int .i64 s.r]] W1 fun e w' => e = .returned (.bool (decide (RightS s))) ∧ Below W1.heap.size W1 w') := right_of s W1 hz
 have e0 : W1.cell? ⟨q, 0, none⟩ = some (.int .i64 s.z) := hb.cell 0
 have e1 : W1.cell? ⟨q, 1, none⟩ = some (.int .i64 s.zb) := hb.cell 1
 have e2 : W1.cell? ⟨q, 2, none⟩ = some (.int .i64 s.b) := hb.cell 2
 have e3 : W1.cell? ⟨q, 3, none⟩ = some (.int .i64 s.r) := hb.cell 3
 have HB : Hid (Below w.heap.size w W1 ∧ Blk W1 q (shL s) 23) := ⟨hbel, hb⟩
 clear hW1 hb hbel hq hk
 by_cases hr : RightS s
 ·have HS : Hid (RightS s) := hr
  rw [decide_eq_true hr] at HR
  clear hr
  go_wp2_with (go_at_call 115; refine HR.out.mono ?_; rintro e w1 ⟨rfl, b1⟩)
  have HB1 : Hid (Below w.heap.size w w1 ∧ Blk w1 q (shL s) 23) := ⟨HB.out.1.trans (b1.mono HB.out.1.size), HB.out.2.below b1 HB.out.2.lt⟩
  clear b1 e0 e1 e2 e3
  go_loopw [12] (fun x wr => ∃ i : Nat, x = .int .i64 i ∧ i ≤ n ∧ Below w.heap.size w wr ∧ Blk wr q (shL s) 23 ∧ Upto s ps i) (fun x _ => n - (intOf x).toNat)
  case atStart => exact ⟨0, rfl, Nat.zero_le _, HB1.out.1, HB1.out.2, ⟨fun k p q h => by omega, fun k p h => by omega⟩⟩
  case round =>
   obtain ⟨i, rfl, hi, bl, hsh, hup⟩ := hrel
   rcases Nat.lt_or_ge i n with hlt | hge
   ·obtain ⟨x, hx⟩ : ∃ x, ps[i]? = some x := ⟨ps[i]'(by have := H.out.1.1; omega), by simp⟩
    obtain ⟨b', off, hA, hc⟩ := (H.out.1.below bl).2.2.2.resolve_left (by omega)
    subst hA
    have d0 : wr.cell? ⟨b', off + i * 4, none⟩ = some (.int .u32 x.1.1) := hc i x hx 0 _ rfl
    have d1 : wr.cell? ⟨b', off + i * 4 + 1, none⟩ = some (.int .u64 x.1.2) := hc i x hx 1 _ rfl
    have d2 : wr.cell? ⟨b', off + i * 4 + 2, none⟩ = some (.int .i64 x.2.1) := hc i x hx 2 _ rfl
    have d3 : wr.cell? ⟨b', off + i * 4 + 3, none⟩ = some (.int .i64 x.2.2) := hc i x hx 3 _ rfl
    obtain ⟨qi, hqi⟩ : ∃ qi, qi = wr.heap.size := ⟨_, rfl⟩
    have kb : Blk (wr.alloc (.cells #[.int .u32 x.1.1, .int .u64 x.1.2, .int .i64 x.2.1, .int .i64 x.2.2] 51)) qi (plL x) 51 := Blk.new' hqi.symm rfl
    have hsh7 := hsh.alloc (.cells #[.int .u32 x.1.1, .int .u64 x.1.2, .int .i64 x.2.1, .int .i64 x.2.2] 51)
    have bl7 := bl.alloc bl.size (.cells #[.int .u32 x.1.1, .int .u64 x.1.2, .int .i64 x.2.1, .int .i64 x.2.2] 51)
    have bl7' := bl7
    have hi' : (i : Int) < n := by omega
    have hwi : IntKind.i64.wrap ((i : Int) + 1) = (i : Int) + 1 := by rw [IntKind.wrap_i64]; omega
    have hwm : IntKind.i64.wrap ((i : Int) - 1) = (i : Int) - 1 := by rw [IntKind.wrap_i64]; omega
    have HX : Hid (ps[i]? = some x ∧ Upto s ps i) := ⟨hx, hup⟩
    clear hup hx
    go_upto_region 6 with fail
    rw [← hqi]
    clear hqi d0 d1 d2 d3
    have hA7 := (H.out.1.below bl7').2.2.2.resolve_left (by omega)
    generalize hW7 : World.alloc wr _ = W7 at kb hsh7 bl7 bl7' hA7 ⊢
    clear hW7
    have k0 : W7.cell? ⟨qi, 0, none⟩ = some (.int .u32 x.1.1) := kb.cell 0
    have k1 : W7.cell? ⟨qi, 1, none⟩ = some (.int .u64 x.1.2) := kb.cell 1
    have k2 : W7.cell? ⟨qi, 2, none⟩ = some (.int .i64 x.2.1) := kb.cell 2
    have k3 : W7.cell? ⟨qi, 3, none⟩ = some (.int .i64 x.2.2) := kb.cell 3
    have g0 : W7.cell? ⟨q, 0, none⟩ = some (.int .i64 s.z) := hsh7.cell 0
    have g1 : W7.cell? ⟨q, 1, none⟩ = some (.int .i64 s.zb) := hsh7.cell 1
    have g2 : W7.cell? ⟨q, 2, none⟩ = some (.int .i64 s.b) := hsh7.cell 2
    have g3 : W7.cell? ⟨q, 3, none⟩ = some (.int .i64 s.r) := hsh7.cell 3
    have hIc : ∀ X : World, Calls Tryz.prog 202 #[.agg #[.int .i64 s.z, .int .i64 s.zb, .int .i64 s.b, .int .i64 s.r], .agg #[.int .i64 x.2.1, .int .i64 x.2.2]] X fun e w' => e = .returned (.bool (decide (2 ≤ x.2.1 ∧ x.2.1 < s.z ∧ 0 ≤ x.2.2 ∧ x.2.2 < s.zb))) ∧ Below X.heap.size X w' := kinLog_of s x.2.1 x.2.2
    have H7 : Hid (Below w.heap.size w W7 ∧ Blk W7 q (shL s) 23 ∧ Blk W7 qi (plL x) 51) := ⟨bl7, hsh7, kb⟩
    have r0 := fun d os => cell_regrown k0 d os
    have r1 := fun d os => cell_regrown k1 d os
    have r2 := fun d os => cell_regrown k2 d os
    have r3 := fun d os => cell_regrown k3 d os
    have t0 := fun d os => cell_regrown g0 d os
    have t1 := fun d os => cell_regrown g1 d os
    have t2 := fun d os => cell_regrown g2 d os
    have t3 := fun d os => cell_regrown g3 d os
    clear kb hsh7 bl7 bl7' hA7 bl hsh hc k0 k1 k2 k3 g0 g1 g2 g3
    by_cases hin : InSh s x
    ·have hin' : 2 ≤ x.2.1 ∧ x.2.1 < s.z ∧ 0 ≤ x.2.2 ∧ x.2.2 < s.zb := hin
     rw [decide_eq_true hin'] at hIc
     have cI := fun d os => Calls.regrown_of (hIc (Go.Sort.grow (redrawn W7 d) os))
     have HIN : Hid (InSh s x) := hin
     clear hin hin' hIc
     rcases Nat.eq_zero_or_pos i with h0 | h0
     ·have z1 : decide ((0 : Int) < (i : Int)) = false := by simp; omega
      have z2 : decide (0 < i) = false := by simp; omega
      have HZ : Hid (i = 0) := h0
      clear h0
      refine wp_region_quiet_below (by kernel_rfl) (by kernel_rfl) ?_
      iterate 3 (quiet_step (fail))
      quiet_step (exact cI _ _)
      iterate 5 (quiet_step (fail))
      iterate 8 (rw [wpQuiet_eq]; go_simp)
      iterate 2 (quiet_step (fail))
      refine wpQuiet_nil ?_
      rintro ⟨dq, osq⟩
      dsimp only
      have bR := H7.out.1.trans ((below_regrown W7 dq osq).mono H7.out.1.size)
      have sR := H7.out.2.1.below (below_regrown W7 dq osq) H7.out.2.1.lt
      have HN : Hid (Below w.heap.size w (Go.Sort.grow (redrawn W7 dq) osq) ∧ Blk (Go.Sort.grow (redrawn W7 dq) osq) q (shL s) 23 ∧ Upto s ps (i + 1)) := ⟨bR, sR, HX.out.2.next HX.out.1 HIN.out (fun _ h => absurd HZ.out (by omega))⟩
      clear bR sR r0 r1 r2 r3 t0 t1 t2 t3 cI
      generalize Go.Sort.grow _ _ = V at HN ⊢
      go_wp2
      go_roundw
      case rel => exact ⟨i + 1, by simp, by omega, HN.out.1, HN.out.2.1, HN.out.2.2⟩
      case measure => simp [intOf]; omega
     ·obtain ⟨j, hj⟩ : ∃ j, i = j + 1 := ⟨i - 1, by omega⟩
      have hpos : (0 : Int) < i := by omega
      have hwj : IntKind.i64.wrap ((i : Int) - 1) = (j : Int) := by rw [IntKind.wrap_i64]; omega
      have hjn : (j : Int) < n := by omega
      obtain ⟨o, ho⟩ : ∃ o, ps[j]? = some o := ⟨ps[j]'(by have := H.out.1.1; omega), by simp⟩
      have HO : Hid (ps[j]? = some o ∧ i = j + 1) := ⟨ho, hj⟩
      obtain ⟨b2, off2, hA2, hc2⟩ := (H.out.1.below H7.out.1).2.2.2.resolve_left (by omega)
      cases hA2
      have p0 := fun d os => cell_regrown (show W7.cell? ⟨b', off + j * 4, none⟩ = some (.int .u32 o.1.1) from hc2 j o ho 0 _ rfl) d os
      have p1 := fun d os => cell_regrown (show W7.cell? ⟨b', off + j * 4 + 1, none⟩ = some (.int .u64 o.1.2) from hc2 j o ho 1 _ rfl) d os
      have p2 := fun d os => cell_regrown (show W7.cell? ⟨b', off + j * 4 + 2, none⟩ = some (.int .i64 o.2.1) from hc2 j o ho 2 _ rfl) d os
      have p3 := fun d os => cell_regrown (show W7.cell? ⟨b', off + j * 4 + 3, none⟩ = some (.int .i64 o.2.2) from hc2 j o ho 3 _ rfl) d os
      clear hj ho hwm hc2
      have hRc : ∀ X : World, Calls Tryz.prog 203 #[.agg #[.int .u32 o.1.1, .int .u64 o.1.2, .int .i64 o.2.1, .int .i64 o.2.2], .agg #[.int .u32 x.1.1, .int .u64 x.1.2, .int .i64 x.2.1, .int .i64 x.2.2]] X fun e w' => e = .returned (.bool (ltP o.1 x.1)) ∧ Below X.heap.size X w' := krises_of o x
      by_cases hlr : ltP o.1 x.1 = true
      ·have HL : Hid (ltP o.1 x.1 = true) := hlr
       rw [hlr] at hRc
       have cR := fun d os => Calls.regrown_of (hRc (Go.Sort.grow (redrawn W7 d) os))
       clear hlr hRc
       refine wp_region_quiet_below (by kernel_rfl) (by kernel_rfl) ?_
       iterate 3 (quiet_step (fail))
       quiet_step (exact cI _ _)
       iterate 11 (quiet_step (fail))
       quiet_step (exact cR _ _)
       iterate 3 (quiet_step (fail))
       refine wpQuiet_nil ?_
       intro _ hw'
       obtain ⟨⟨dq, osq⟩, hw''⟩ := hw'
       subst hw''
       have bR := H7.out.1.trans ((below_regrown W7 dq osq).mono H7.out.1.size)
       have sR := H7.out.2.1.below (below_regrown W7 dq osq) H7.out.2.1.lt
       have HN : Hid (Below w.heap.size w (Go.Sort.grow (redrawn W7 dq) osq) ∧ Blk (Go.Sort.grow (redrawn W7 dq) osq) q (shL s) 23 ∧ Upto s ps (i + 1)) := ⟨bR, sR, HX.out.2.next HX.out.1 HIN.out (fun o' _ h => by rw [HO.out.2, Nat.add_sub_cancel, HO.out.1] at h; cases h; exact HL.out)⟩
       clear bR sR r0 r1 r2 r3 t0 t1 t2 t3 cI cR p0 p1 p2 p3
       generalize Go.Sort.grow _ _ = V at HN ⊢
       go_wp2
       go_roundw
       case rel => exact ⟨i + 1, by simp, by omega, HN.out.1, HN.out.2.1, HN.out.2.2⟩
       case measure => simp [intOf]; omega
      ·have hlr' : ltP o.1 x.1 = false := by simpa using hlr
       rw [hlr'] at hRc
       have cR := fun d os => Calls.regrown_of (hRc (Go.Sort.grow (redrawn W7 d) os))
       have HL : Hid (ltP o.1 x.1 = false) := hlr'
       clear hlr hlr' hRc
       refine wp_region_quiet_below (by kernel_rfl) (by kernel_rfl) ?_
       iterate 3 (quiet_step (fail))
       quiet_step (exact cI _ _)
       iterate 11 (quiet_step (fail))
       quiet_step (exact cR _ _)
       iterate 3 (quiet_step (fail))
       refine wpQuiet_nil ?_
       intro _ hw'
       obtain ⟨⟨dq, osq⟩, hw''⟩ := hw'
       subst hw''
       have bR := H7.out.1.trans ((below_regrown W7 dq osq).mono H7.out.1.size)
       have sR := H7.out.2.1.below (below_regrown W7 dq osq) H7.out.2.1.lt
       go_wp2
       refine ⟨rfl, bR, .inl ⟨fun h => ?_, rfl⟩⟩
       have := h.2.1 j o x HO.out.1 (by rw [← HO.out.2]; exact HX.out.1)
       rw [HL.out] at this
       cases this
    ·have hin' : ¬ (2 ≤ x.2.1 ∧ x.2.1 < s.z ∧ 0 ≤ x.2.2 ∧ x.2.2 < s.zb) := hin
     rw [decide_eq_false hin'] at hIc
     have cI := fun d os => Calls.regrown_of (hIc (Go.Sort.grow (redrawn W7 d) os))
     have HIN : Hid (¬ InSh s x) := hin
     clear hin hin' hIc
     refine wp_region_quiet_below (by kernel_rfl) (by kernel_rfl) ?_
     iterate 3 (quiet_step (fail))
     quiet_step (exact cI _ _)
     iterate 2 (quiet_step (fail))
     iterate 3 (rw [wpQuiet_eq]; go_simp)
     iterate 8 (rw [wpQuiet_eq]; go_simp; rw [if_neg (by intro h; cases h)])
     rw [wpQuiet_eq]
     go_simp
     iterate 1 (quiet_step (fail))
     refine wpQuiet_nil ?_
     rintro ⟨dq, osq⟩
     dsimp only
     have bR := H7.out.1.trans ((below_regrown W7 dq osq).mono H7.out.1.size)
     have sR := H7.out.2.1.below (below_regrown W7 dq osq) H7.out.2.1.lt
     go_wp2
     exact ⟨rfl, bR, .inl ⟨fun h => HIN.out (h.2.2 x (List.mem_of_getElem? HX.out.1)), rfl⟩⟩
   ·obtain rfl : i = n := by omega
    have HF : Hid (CheckE w s ps (.returned (.tuple #[])) wr) := ⟨bl, .inr ⟨by rw [← H.out.1.1] at hup; exact hup.all HS.out, rfl⟩⟩
    clear bl hsh hup
    go_wp2
    go_end0
    exact HF.out
 ·have HS : Hid (¬ RightS s) := hr
  rw [decide_eq_false hr] at HR
  clear hr
  go_wp2_with (go_at_call 115; refine HR.out.mono ?_; rintro e w1 ⟨rfl, b1⟩)
  exact ⟨rfl, HB.out.1.trans (b1.mono HB.out.1.size), .inl ⟨fun h => HS.out h.1, rfl⟩⟩
end Go.Proofs.YtncnkpnfmbgifaaGreat
