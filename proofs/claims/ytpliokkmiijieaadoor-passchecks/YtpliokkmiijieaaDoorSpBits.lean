/- What one call of spell's bitsAt does. -/
import Derived.Test.YtpliokkmiijieaaDoorSpSmall
namespace Go.Proofs.YtpliokkmiijieaaDoor
open Go.RowKit
set_option linter.unusedVariables false
set_option maxRecDepth 4000

theorem join16 {x y : Int} (hx : Fits8 x) (hy : Fits8 y) : bits .or .u16 (x * 256) y = x * 256 + y := by
  unfold Fits8 at hx hy
  rw [u16_or _ _ (by omega) (by omega) (by omega) (by omega), nat_join8 _ _ (by omega) (by omega)]
  omega
theorem low5 (x : Int) : x % 256 % 32 = x % 32 := Int.emod_emod_of_dvd x (by decide)
theorem bitsAt_two (b off len cap q r : Nat) (x y : Int) (w : World) (hx : Fits8 x) (hy : Fits8 y) (cx : w.cell? ⟨b, off + q, none⟩ = some (.int .u8 x)) (cy : w.cell? ⟨b, off + (q + 1), none⟩ = some (.int .u8 y)) (hl : q + 1 < len) (hm : len ≤ 1000000) (hr : r < 8) (n : Int) (hq : n / 8 = q) (hn : n % 8 = r) (h0 : 0 ≤ n) :
    Calls Tryd.prog 45 #[.slice (some ⟨b, off, none⟩) len cap, .int .i64 n] w fun e w' => e = .returned (.int .u8 ((x * 256 + y) / 2 ^ (11 - r) % 32)) ∧ w' = w := by
  have HJ : Hid (bits .or .u16 (x * 256) y = x * 256 + y) := join16 hx hy
  unfold Fits8 at hx hy
  have h1 : n ≤ 8000000 := by omega
  go_enter Tryd.func45, Tryd.ntmps45
  go_wp2
  go_ret
  exact ⟨by rw [HJ.out, low5]; rfl, rfl⟩
theorem bitsAt_one (b off len cap q r : Nat) (x : Int) (w : World) (hx : Fits8 x) (cx : w.cell? ⟨b, off + q, none⟩ = some (.int .u8 x)) (hl : q + 1 = len) (hm : len ≤ 1000000) (hr : r < 8) (n : Int) (hq : n / 8 = q) (hn : n % 8 = r) (h0 : 0 ≤ n) :
    Calls Tryd.prog 45 #[.slice (some ⟨b, off, none⟩) len cap, .int .i64 n] w fun e w' => e = .returned (.int .u8 ((x * 256 + 0) / 2 ^ (11 - r) % 32)) ∧ w' = w := by
  subst hl
  unfold Fits8 at hx
  have h1 : n ≤ 8000000 := by omega
  go_enter Tryd.func45, Tryd.ntmps45
  go_wp2
  go_ret
  exact ⟨by rw [low5, Int.add_zero]; rfl, rfl⟩
theorem bin_fit {w : World} {a : Option Addr} {len : Nat} {zs : List Int} (h : BIn w a len zs) : Fit 8 zs := fun z hz => h.2.2.1 z hz
theorem fits_fit {zs : List Int} (h : ∀ z ∈ zs, Fits8 z) : Fit 8 zs := fun z hz => h z hz
theorem bitsAt_of (a : Option Addr) (len cap : Nat) (zs : List Int) (w : World) (h : BIn w a len zs) (hm : len ≤ 1000000) (k : Nat) (hk : k / 8 < len) (n : Int) (hn : n = k) :
    Calls Tryd.prog 45 #[.slice a len cap, .int .i64 n] w fun e w' => e = .returned (.int .u8 (sumB (bitOf 8 zs) k 5)) ∧ w' = w := by
  subst hn
  obtain ⟨b, off, rfl, hc⟩ := h.2.2.2.resolve_left (by omega)
  rw [← two_bytes (bin_fit h) k]
  have hx := byte_fits h.2.2.1 (k / 8)
  by_cases h1 : k / 8 + 1 < len
  · exact bitsAt_two b off len cap (k / 8) (k % 8) _ _ w hx (byte_fits h.2.2.1 (k / 8 + 1)) (hc _ hk) (hc _ h1) h1 hm (by omega) k (by omega) (by omega) (by omega)
  · have e : zs.getD (k / 8 + 1) 0 = 0 := by
      have hl := h.1
      simp [List.getD, List.getElem?_eq_none (by omega : zs.length ≤ k / 8 + 1)]
    rw [e]
    exact bitsAt_one b off len cap (k / 8) (k % 8) _ w hx (hc _ hk) (by omega) hm (by omega) k (by omega) (by omega) (by omega)
end Go.Proofs.YtpliokkmiijieaaDoor
