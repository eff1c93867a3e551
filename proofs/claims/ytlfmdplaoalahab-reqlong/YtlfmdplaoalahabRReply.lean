/- What one call of req's Reply does, and of the document's Write and Reply. -/
import Derived.Test.YtlfmdplaoalahabRWrite
namespace Go.Proofs.Ytlfmdplaoalahab
open Go.RowKit
set_option linter.unusedVariables false
set_option maxRecDepth 4000

theorem pack16 (x y : Int) : (packL rpW [rpMagic, x, y]).length = 16 := by rw [packL_length _ _ (by simp [rpW]), off_rp]
theorem fits3 {a b c : Int} (ha : FitsU a) (hb : FitsU b) (hc : FitsU c) : ∀ z ∈ [a, b, c], FitsU z := by
  intro z hz
  simp only [List.mem_cons, List.not_mem_nil, or_false] at hz
  rcases hz with rfl | rfl | rfl <;> assumption
theorem rpM_fits : FitsU rpMagic := by unfold FitsU rpMagic; omega
theorem fits32U {x : Int} (h : Fits32 x) : FitsU x := by unfold Fits32 at h; unfold FitsU; omega
theorem nin_rpV {w : World} {g : Nat} {x y : Int} (hg : w.heap.size = g) (hx : Fits32 x) (hy : FitsU y) : NIn .u64 (w.alloc (.cells #[.int .u64 1732535960, .int .u64 x, .int .u64 y] 23)) (some ⟨g, 0, none⟩) 3 [rpMagic, x, y] :=
  nin_litU 23 hg rfl rfl (fits3 rpM_fits (fits32U hx) hy) (by omega)

set_option maxHeartbeats 1000000 in
theorem reply_of (x y : Int) (a : Option Addr) (n c : Nat) (D : List Int) (w : World) (hx : Fits32 x) (hy : FitsU y) (hD : BIn w a n D) (hnil : a = none → n = 0 ∧ c = 0) (hn : n ≤ 100000) :
    Calls Try.prog 8 #[.int .u32 x, .int .u64 y, .slice a n c] w fun e w' => ∃ A k C, e = .returned (.slice A k C) ∧ w'.ownsRow w.heap.size 5 1 (.slice A k C) k (u8s (rpL x y D)) ∧ Below w.heap.size w w' := by
  have H : Hid (BIn w a n D ∧ (a = none → n = 0 ∧ c = 0) ∧ Fits32 x ∧ FitsU y) := ⟨hD, hnil, hx, hy⟩
  have hux : IntKind.u64.wrap x = x := by rw [IntKind.wrap_u64]; unfold Fits32 at hx; omega
  clear hD hnil hx hy
  obtain ⟨P, hP⟩ : ∃ P, P = packL rpW [rpMagic, x, y] := ⟨_, rfl⟩
  have hPl := pack16 x y
  rw [← hP] at hPl
  have eY : rpL x y D = P ++ D := by unfold rpL; rw [← hP]
  rw [eY]
  have HP : Hid (P = packL rpW [rpMagic, x, y] ∧ P.length = 16) := ⟨hP, hPl⟩
  clear eY hP hPl
  go_enter Try.func8, Try.ntmps8
  go_wp2_with fail
  refine (repWidths_of w).mono ?_
  rintro e W1 ⟨rfl, rfl⟩
  go_wp2_with fail
  refine (pack_of (some ⟨w.heap.size, 0, none⟩) 3 3 rpW (some ⟨w.heap.size + 1, 0, none⟩) 3 3 [rpMagic, x, y] _ ((nin_rp rfl).alloc _) (nin_rpV (by simp) H.out.2.2.1 H.out.2.2.2) (by omega) (by omega)).mono ?_
  rw [← HP.out.1]
  rintro e w1 ⟨a1, k1, c1, rfl, hk1, ow1, b1⟩
  have hk : k1 = 16 := hk1.trans HP.out.2
  clear hk1
  subst hk
  have B1 : Hid (w1.ownsRow w.heap.size 5 1 (.slice a1 16 c1) 16 (u8s P) ∧ Below w.heap.size w w1 ∧ BIn w1 a n D) := ⟨own_lowerN ow1 (by simp; omega), below_lits b1, H.out.1.below (below_lits b1)⟩
  clear ow1 b1
  go_wp2_with (at_builtin; refine wpList_append_bin rfl (.tmp 12) (.tmp 13) rfl w.heap.size a1 16 c1 P rfl B1.out.1 a n c D rfl B1.out.2.2 H.out.2.1 (by omega) B1.out.2.1.size ?_; intro A C w2 ow2 b2)
  go_ret
  exact ⟨A, 16 + n, C, rfl, ow2, B1.out.2.1.trans b2⟩

end Go.Proofs.Ytlfmdplaoalahab
