/- What one call of a reader's number does. -/
import Derived.Test.YteokhkoaieibmaaWNum
import Derived.Test.YteokhkoaieibmaaWTail
import Derived.Test.YteokhkoaieibmaaBlk
import Derived.WalkLawsBesides
namespace Go.Proofs.Yteokhkoaieibmaa
open Go.RowKit
set_option linter.unusedVariables false
set_option maxRecDepth 4000

theorem p256 : ∀ j : Nat, j < 8 → (256 : Int) ^ j ≤ 72057594037927936 := by decide
theorem shl8 {n x : Int} (hn : 0 ≤ n) (h1 : n < 72057594037927936) (hx : Fits8 x) : bits .or .u64 (n * 256) x = n * 256 + x := by
  have hc : bits .or .u64 (n * 256) x = bits .or .u64 x (n * 256) := by
    show IntKind.u64.wrap ((BitVec.ofInt 64 (n * 256) ||| BitVec.ofInt 64 x).toNat : Int) = IntKind.u64.wrap ((BitVec.ofInt 64 x ||| BitVec.ofInt 64 (n * 256)).toNat : Int)
    rw [BitVec.or_comm]
  rw [hc, u64_or8 _ _ hx.1 hx.2 (by omega) (by omega) (by omega), Int.add_comm]
def tooFew : ByteArray := ⟨#[119, 105, 114, 101, 58, 32, 116, 111, 111, 32, 102, 101, 119, 32, 98, 121, 116, 101, 115]⟩
/-- Too few bytes: it panics. -/
theorem number_few (g : Nat) (a : Option Addr) (n c k : Nat) (w : World) (hc : w.cell? ⟨g, 0, none⟩ = some (.slice a n c)) (hk : n < k) :
    Calls Try.prog 91 #[.pointer (some ⟨g, 0, none⟩), .int .i64 k] w fun e w' => e = .panicked [{ v := .iface 9 (.string tooFew), recovered := false }] ∧ w' = w := by
  have hlt : (n : Int) < k := by omega
  go_enter Try.func91, Try.ntmps91
  go_wp2
  exact ⟨rfl, rfl, rfl⟩
set_option maxHeartbeats 1000000 in
theorem number_some (g b off n c k : Nat) (xs : List Int) (w : World) (hc : w.cell? ⟨g, 0, none⟩ = some (.slice (some ⟨b, off, none⟩) n c)) (hz : w.frozen? ⟨g, 0, none⟩ = false)
    (h : ∀ i, i < n → w.cell? ⟨b, off + i, none⟩ = some (.int .u8 (xs.getD i 0))) (hf : ∀ z ∈ xs, Fits8 z) (hl : xs.length = n) (hk : k ≤ n) (hk8 : k ≤ 8) (hnc : n ≤ c) :
    Calls Try.prog 91 #[.pointer (some ⟨g, 0, none⟩), .int .i64 k] w fun e w' => e = .returned (.int .u64 (numI (xs.take k))) ∧ w' = w.setCell ⟨g, 0, none⟩ (sliced (some ⟨b, off, none⟩) k n c 1) := by
  have hge : (k : Int) ≤ n := by omega
  have hge' : (k : Int) ≤ c := by omega
  have H : Hid ((∀ i, i < n → w.cell? ⟨b, off + i, none⟩ = some (.int .u8 (xs.getD i 0))) ∧ (∀ z ∈ xs, Fits8 z) ∧ xs.length = n) := ⟨h, hf, hl⟩
  clear h hf hl
  go_enter Try.func91, Try.ntmps91
  go_wp2
  go_loopw [5, 23] (fun v i wr => ∃ j : Nat, j ≤ k ∧ i = .int .i64 j ∧ v = .int .u64 (numI (xs.take j)) ∧ wr = w)
    (fun _ i _ => k - (intOf i).toNat)
  case atStart => exact ⟨0, by omega, rfl, rfl, rfl⟩
  case round =>
    obtain ⟨j, hj, rfl, rfl, rfl⟩ := hrel
    by_cases hlt : j < k
    · have hlt' : (j : Int) < k := by omega
      have hcj := H.out.1 j (by omega)
      have hx : Fits8 (xs.getD j 0) := byte_fits H.out.2.1 j
      obtain ⟨x, ex⟩ : ∃ x, x = xs.getD j 0 := ⟨_, rfl⟩
      rw [← ex] at hcj hx
      obtain ⟨r0, r1⟩ := numI_range j (xs.take j) (by rw [List.length_take, H.out.2.2]; omega) (fun z hz => H.out.2.1 z (List.mem_of_mem_take hz))
      have r2 : numI (xs.take j) < 72057594037927936 := by
        have := p256 j (by omega)
        omega
      have hnx : numI (xs.take j) * 256 + x = numI (xs.take (j + 1)) := by
        rw [take_next xs (by rw [H.out.2.2]; omega), numI_snoc, ex]
      obtain ⟨N, eN⟩ : ∃ N, N = numI (xs.take j) := ⟨_, rfl⟩
      rw [← eN] at r0 r2 hnx ⊢
      have hor := shl8 r0 r2 hx
      have HE : Hid (N * 256 + x = numI (xs.take (j + 1))) := hnx
      clear hnx eN ex r1
      obtain ⟨hx0, hx1⟩ := hx
      go_wp2
      go_roundw
      case rel => exact ⟨j + 1, by omega, by go_num, by rw [← HE.out], trivial⟩
      case measure => simp [intOf]; omega
    · have hge : (k : Int) ≤ j := by omega
      have e : j = k := by omega
      rw [e]
      clear e hlt hj
      by_cases hck : c = k
      · have hck' : (c == k) = true := by simp [hck]
        go_wp2
        go_ret
        exact ⟨rfl, by simp [sliced, hck]⟩
      · go_wp2
        go_ret
        exact ⟨rfl, by simp [sliced, hck, Addr.add_mid]⟩
/-- Numbers are taken off the front of what is left. -/
theorem number_of (g : Nat) (a : Option Addr) (n c k : Nat) (xs : List Int) (w : World) (hc : w.cell? ⟨g, 0, none⟩ = some (.slice a n c)) (hz : w.frozen? ⟨g, 0, none⟩ = false)
    (h : BIn w a n xs) (h1 : 1 ≤ k) (hk : k ≤ n) (hk8 : k ≤ 8) (hnc : n ≤ c) :
    Calls Try.prog 91 #[.pointer (some ⟨g, 0, none⟩), .int .i64 k] w fun e w' => e = .returned (.int .u64 (numI (xs.take k))) ∧ w' = w.setCell ⟨g, 0, none⟩ (sliced a k n c 1) := by
  obtain ⟨b, off, rfl, hcell⟩ := h.2.2.2.resolve_left (by omega)
  exact number_some g b off n c k xs w hc hz hcell h.2.2.1 h.1 hk hk8 hnc
theorem sliced_some {a : Option Addr} {k n c : Nat} (ha : a ≠ none) : ∃ ad, sliced a k n c 1 = .slice (some ad) (n - k) (c - k) := by
  cases a with
  | none => exact absurd rfl ha
  | some x => unfold sliced; split
              · exact ⟨_, rfl⟩
              · exact ⟨_, rfl⟩
theorem sliced_bin {W : World} {a : Option Addr} {k n c : Nat} {xs : List Int} (h : BIn W a n xs) (hk : k ≤ n) (hc : n ≤ c) : ∃ a', sliced a k n c 1 = .slice a' (n - k) (c - k) ∧ BIn W a' (n - k) (xs.drop k) ∧ (a ≠ none → a' ≠ none) := by
  have := NIn.back h.n k hk hc
  refine ⟨_, by unfold sliced; rw [Nat.mul_one], this.b, fun ha => ?_⟩
  split
  · exact ha
  · cases a with
    | none => exact absurd rfl ha
    | some x => simp
end Go.Proofs.Yteokhkoaieibmaa
