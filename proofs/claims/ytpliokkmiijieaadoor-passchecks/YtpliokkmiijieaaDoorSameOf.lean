/- What one call of byteAt and of Same does: the world stays as it was. -/
import Derived.Test.YtpliokkmiijieaaDoorLists
import Derived.Test.YtpliokkmiijieaaDoorMacI
import Derived.BigQuiet
namespace Go.Proofs.YtpliokkmiijieaaDoor
open Go.RowKit
set_option linter.unusedVariables false
set_option maxRecDepth 4000

theorem byteAt_of (a : Option Addr) (n c : Nat) (zs : List Int) (i : Nat) (w : World) (hl : BIn w a n zs) :
    Calls Tryd.prog 51 #[.slice a n c, .int .i64 i] w fun e w' => e = .returned (.int .u8 (zs.getD i 0)) ∧ w' = w := by
  by_cases hi : i < n
  · have hi' : (i : Int) < n := by omega
    obtain ⟨b, off, ha, hcell⟩ := hl.2.2.2.resolve_left (by omega)
    subst ha
    have hc := hcell i hi
    clear hcell hl
    go_enter Tryd.func51, Tryd.ntmps51
    go_wp2
    go_ret
    exact ⟨rfl, rfl⟩
  · have hi' : (n : Int) ≤ i := by omega
    have h0 : zs.getD i 0 = 0 := by simp [List.getD, List.getElem?_eq_none (by rw [hl.1]; omega : zs.length ≤ i)]
    rw [h0]
    clear hl h0
    go_enter Tryd.func51, Tryd.ntmps51
    go_wp2
    go_ret
    exact ⟨rfl, rfl⟩

theorem i64_or_nat (a b : Nat) (ha : a < 4611686018427387904) (hb : b < 4611686018427387904) : bits .or .i64 (a : Int) (b : Int) = ((a ||| b : Nat) : Int) := by
  have hx : a ||| b < 2 ^ 62 := Nat.or_lt_two_pow (by omega) (by omega)
  show IntKind.i64.wrap ((BitVec.ofInt 64 (a : Int) ||| BitVec.ofInt 64 (b : Int)).toNat : Int) = _
  rw [BitVec.toNat_or, ofInt_u64 a (by omega), ofInt_u64 b (by omega), wrap_small _ (by omega) (by omega)]
theorem i64_xor_nat (a b : Nat) (ha : a < 4611686018427387904) (hb : b < 4611686018427387904) : bits .xor .i64 (a : Int) (b : Int) = ((a ^^^ b : Nat) : Int) := by
  have hx : a ^^^ b < 2 ^ 62 := Nat.xor_lt_two_pow (by omega) (by omega)
  show IntKind.i64.wrap ((BitVec.ofInt 64 (a : Int) ^^^ BitVec.ofInt 64 (b : Int)).toNat : Int) = _
  rw [BitVec.toNat_xor, ofInt_u64 a (by omega), ofInt_u64 b (by omega), wrap_small _ (by omega) (by omega)]

theorem byte_in {B : List Int} (h : ∀ z ∈ B, Fits8 z) (i : Nat) : Fits8 (B.getD i 0) := by
  by_cases hi : i < B.length
  · have : B.getD i 0 = B[i] := by simp [List.getD, hi]
    rw [this]; exact h _ (List.getElem_mem hi)
  · have : B.getD i 0 = 0 := by simp [List.getD, List.getElem?_eq_none (by omega : B.length ≤ i)]
    rw [this]; unfold Fits8; omega
theorem byte_wide {x y : Int} (hx : Fits8 x) (hy : Fits8 y) : wrap64 (bits .xor .u8 x y) = bits .xor .u8 x y := by
  have := xor8_fits hx hy
  unfold Fits8 at this
  unfold wrap64
  omega
def diffN (xs ys : List Int) : Nat → Int
  | 0 => bits .xor .i64 xs.length ys.length
  | k + 1 => bits .or .i64 (diffN xs ys k) (bits .xor .u8 (xs.getD k 0) (ys.getD k 0))
theorem xor_zero_iff (a b : Nat) : a ^^^ b = 0 ↔ a = b := by
  constructor
  · intro h
    have : a ^^^ b ^^^ b = 0 ^^^ b := by rw [h]
    rw [Nat.xor_assoc, Nat.xor_self] at this
    simpa using this
  · intro h; rw [h]; exact Nat.xor_self b
theorem or_zero_iff (a b : Nat) : a ||| b = 0 ↔ a = 0 ∧ b = 0 := by
  constructor
  · intro h
    have h1 : a ≤ a ||| b := Nat.left_le_or
    have h2 : b ≤ a ||| b := Nat.right_le_or
    omega
  · rintro ⟨rfl, rfl⟩; rfl
theorem diffN_is {xs ys : List Int} (hx : ∀ z ∈ xs, Fits8 z) (hy : ∀ z ∈ ys, Fits8 z) (lx : xs.length ≤ 1000000) (ly : ys.length ≤ 1000000) :
    ∀ k, ∃ d : Nat, diffN xs ys k = d ∧ d < 4611686018427387904 ∧ (d = 0 ↔ xs.length = ys.length ∧ ∀ i, i < k → xs.getD i 0 = ys.getD i 0)
  | 0 => ⟨xs.length ^^^ ys.length, i64_xor_nat _ _ (by omega) (by omega), by have := Nat.xor_lt_two_pow (n := 62) (x := xs.length) (y := ys.length) (by omega) (by omega); omega, by rw [xor_zero_iff]; simp⟩
  | k + 1 => by
    obtain ⟨d, h1, h2, h3⟩ := diffN_is hx hy lx ly k
    have f1 := byte_in hx k
    have f2 := byte_in hy k
    unfold Fits8 at f1 f2
    have hb : (xs.getD k 0).toNat ^^^ (ys.getD k 0).toNat < 2 ^ 8 := Nat.xor_lt_two_pow (by omega) (by omega)
    refine ⟨d ||| ((xs.getD k 0).toNat ^^^ (ys.getD k 0).toNat), ?_, ?_, ?_⟩
    · rw [diffN, h1, u8_xor _ _ f1.1 f1.2 f2.1 f2.2, i64_or_nat _ _ h2 (by omega)]
    · have := Nat.or_lt_two_pow (n := 62) (x := d) (y := (xs.getD k 0).toNat ^^^ (ys.getD k 0).toNat) (by omega) (by omega)
      omega
    · rw [or_zero_iff, h3, xor_zero_iff]
      constructor
      · rintro ⟨⟨e, hall⟩, hk⟩
        refine ⟨e, fun i hi => ?_⟩
        by_cases hik : i = k
        · subst hik; omega
        · exact hall i (by omega)
      · rintro ⟨e, hall⟩
        exact ⟨⟨e, fun i hi => hall i (by omega)⟩, by rw [hall k (by omega)]⟩
theorem diffN_end {xs ys : List Int} (hx : ∀ z ∈ xs, Fits8 z) (hy : ∀ z ∈ ys, Fits8 z) (lx : xs.length ≤ 1000000) (ly : ys.length ≤ 1000000) {k : Nat} (hk : xs.length ≤ k) : diffN xs ys k = 0 ↔ xs = ys := by
  obtain ⟨d, h1, h2, h3⟩ := diffN_is hx hy lx ly k
  rw [h1]
  constructor
  · intro h
    obtain ⟨e, hall⟩ := h3.1 (by omega)
    apply List.ext_getElem e
    intro i hi1 hi2
    have := hall i (by omega)
    simpa [List.getD, hi1, hi2] using this
  · rintro rfl
    have := h3.2 ⟨rfl, fun _ _ => rfl⟩
    omega

set_option maxHeartbeats 1000000 in
theorem same_of (a : Option Addr) (n c : Nat) (xs : List Int) (b : Option Addr) (m d : Nat) (ys : List Int) (w : World) (hx : BIn w a n xs) (hy : BIn w b m ys) (hn : n ≤ 1000000) (hm : m ≤ 1000000) :
    Calls Tryd.prog 35 #[.slice a n c, .slice b m d] w fun e w' => e = .returned (.bool (decide (xs = ys))) ∧ w' = w := by
  have H : Hid (BIn w a n xs ∧ BIn w b m ys) := ⟨hx, hy⟩
  clear hx hy
  obtain ⟨M, hM⟩ : ∃ M : Nat, M = max n m := ⟨_, rfl⟩
  have HM : Hid (n ≤ M ∧ m ≤ M ∧ M ≤ 1000000) := ⟨by omega, by omega, by omega⟩
  have hM' : (if n < m then (m : Int) else (n : Int)) = M := by split <;> omega
  have hM2 : (if (n : Int) < m then (m : Int) else (n : Int)) = M := by split <;> omega
  clear hM
  go_enter Tryd.func35, Tryd.ntmps35
  go_wp2
  go_loopw [5, 17] (fun x i wr => ∃ k : Nat, k ≤ M ∧ i = .int .i64 k ∧ x = .int .i64 (diffN xs ys k) ∧ wr = w)
    (fun _ i _ => M - (intOf i).toNat)
  case atStart => exact ⟨0, by omega, rfl, by rw [diffN, H.out.1.1, H.out.2.1], rfl⟩
  case round =>
    obtain ⟨k, hk, rfl, rfl, rfl⟩ := hrel
    by_cases hlt : k < M
    · have hlt' : (k : Int) < M := by omega
      have B1 := byteAt_of a n c xs k _ H.out.1
      have B2 := byteAt_of b m d ys k _ H.out.2
      obtain ⟨x, hx⟩ : ∃ x, x = xs.getD k 0 := ⟨_, rfl⟩
      obtain ⟨y, hy⟩ : ∃ y, y = ys.getD k 0 := ⟨_, rfl⟩
      rw [← hx] at B1
      rw [← hy] at B2
      have HX : Hid (x = xs.getD k 0 ∧ y = ys.getD k 0) := ⟨hx, hy⟩
      clear hx hy
      go_wp2_with fail
      refine B1.mono ?_
      rintro e w1 ⟨rfl, rfl⟩
      go_wp2_with fail
      refine B2.mono ?_
      rintro e w1 ⟨rfl, rfl⟩
      go_wp2
      go_roundw
      case rel => exact ⟨k + 1, by omega, by go_num, by rw [HX.out.1, HX.out.2, byte_wide (byte_in H.out.1.2.2.1 k) (byte_in H.out.2.2.2.1 k)]; rfl, trivial⟩
      case measure => simp [intOf]; omega
    · have hge : (M : Int) ≤ k := by omega
      have HE : Hid ((diffN xs ys k == 0) = decide (xs = ys)) := by
        have := diffN_end H.out.1.2.2.1 H.out.2.2.2.1 (by rw [H.out.1.1]; exact hn) (by rw [H.out.2.1]; exact hm) (k := k) (by rw [H.out.1.1]; have := HM.out.1; omega)
        show _ = _
        rw [Bool.eq_iff_iff]
        simpa using this
      go_wp2
      go_ret
      exact ⟨congrArg (fun x => Ending.returned (Value.bool x)) HE.out, rfl⟩
end Go.Proofs.YtpliokkmiijieaaDoor
