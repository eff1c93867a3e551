/- What one call of known (of the statements' own) does. -/
import Derived.Test.YtkegpgmmlmineaaGRefAsked
namespace Go.Proofs.Ytkegpgmmlmineaa
open Go.RowKit
set_option linter.unusedVariables false
set_option maxRecDepth 4000

theorem exF : flagsB [0, 0, 0, 3] = true ∧ flagsC [0, 0, 0, 3] = 4 ∧ flagsE [0, 0, 0, 3] = 0 := by decide
def optX : List Int := [73, 72, 65, 86, 69, 79, 80, 84, 0, 0, 0, 2, 0, 0, 0, 0]
theorem exN : nextK optX = 2 ∧ nextC optX = 16 ∧ nextE optX = 0 ∧ nextD optX = [] := by decide
def askX : List Int := [0, 0, 0, 1, 97, 0, 0]
theorem exA : askS askX = [97] ∧ askL askX = [] ∧ askE askX = 0 := by decide
theorem exS : strOfNums [97] = ⟨#[97]⟩ := by kernel_rfl
theorem fits_of {L : List Int} (h : (L.all fun z => decide (0 ≤ z) && decide (z < 256)) = true) : ∀ z ∈ L, Fits8 z := by
  intro z hz
  have := List.all_eq_true.1 h z hz
  simp only [Bool.and_eq_true, decide_eq_true_eq] at this
  exact this
theorem opt_there (w : World) : (w.alloc (.cells #[.int .u32 0, .slice none 0 0] 32)).there w.heap.size 0 2 :=
  (Blk.new' (L := optL 0 none 0 0) rfl rfl).there 0 _ (by decide)
theorem opt_kept (w : World) (K : Int) (A : Option Addr) (k C : Nat) : Blk ((w.alloc (.cells #[.int .u32 0, .slice none 0 0] 32)).setCells w.heap.size 0 (optL K A k C)) w.heap.size (optL K A k C) 32 ∧ Below w.heap.size w ((w.alloc (.cells #[.int .u32 0, .slice none 0 0] 32)).setCells w.heap.size 0 (optL K A k C)) :=
  ⟨(Blk.new' (L := optL 0 none 0 0) rfl rfl).setAll rfl, below_setCells (Nat.le_refl _) _ _ _ ((Below.refl _ _).alloc (Nat.le_refl _) _)⟩
set_option maxHeartbeats 1000000 in
theorem gknown_any (w : World) :
    Calls Try.prog 15 #[] w fun e w' => e = .returned (.bool true) ∧ Below w.heap.size w w' := by
  obtain ⟨q, hq⟩ : ∃ q, q = w.heap.size := ⟨_, rfl⟩
  have HQ : Hid (q = w.heap.size) := hq
  rw [← hq]
  clear hq
  go_enter Try.func15, Try.ntmps15
  go_wp2_with fail
  refine (flags_of (some ⟨w.heap.size, 0, none⟩) 4 4 [0, 0, 0, 3] _ (new_bin rfl rfl rfl (fits_of rfl) (by unfold maxLen; omega)) (fun h => by cases h) (by omega) (by omega)).mono ?_
  rw [exF.1, exF.2.1, exF.2.2]
  rintro e w1 ⟨rfl, b1⟩
  have B1 : Hid (Below q w w1 ∧ q ≤ w1.heap.size) := by
    have b := below_new b1
    rw [← HQ.out] at b
    exact ⟨b, by have := b.size; rw [HQ.out]; exact this⟩
  clear b1
  go_wp2_with fail
  refine (next_of (some ⟨w1.heap.size, 0, none⟩) 16 16 optX _ (new_bin rfl rfl rfl (fits_of rfl) (by unfold maxLen; omega)) (fun h => by cases h) (by omega) (by omega)).mono ?_
  rw [exN.1, exN.2.1, exN.2.2.1]
  rintro e w2 ⟨A, k, C, rfl, -, -, b2⟩
  have B2 : Hid (Below q w w2 ∧ q ≤ w2.heap.size) := by
    have b := below_new b2
    exact ⟨B1.out.1.trans (b.mono B1.out.2), by have := b.size; have := B1.out.2; omega⟩
  clear b2
  go_upto_region 3 with (refine wpList_store_mid rfl 32 (.tmp 4) (.tmp 19) rfl w2.heap.size 0 (optL 2 A k C).toArray rfl rfl ?hT (opt_size _ _ _ _) (opt_all _ _ _ _) ?_; (case hT => exact opt_there _))
  obtain ⟨u0, u1⟩ := opt_kept w2 2 A k C
  generalize hU : World.setCells _ _ _ _ = U at u0 u1 ⊢
  have B3 : Hid (Below q w U ∧ q ≤ U.heap.size ∧ Blk U w2.heap.size (optL 2 A k C) 32) := ⟨B2.out.1.trans (u1.mono B2.out.2), by have := u1.size; have := B2.out.2; omega, u0⟩
  clear hU u0 u1
  go_wp2_with fail
  refine (asked_of (some ⟨U.heap.size, 0, none⟩) 7 7 askX _ (new_bin rfl rfl rfl (fits_of rfl) (by unfold maxLen; omega)) (fun h => by cases h) (by omega) (by omega)).mono ?_
  rw [exA.1, exA.2.1, exA.2.2, exS]
  rintro e w3 ⟨A3, k3, C3, rfl, n3, b3⟩
  have hk3 : k3 = 0 := by have := n3.1; simpa using this.symm
  subst hk3
  have b := below_new b3
  have c3 : w3.cell? ⟨w2.heap.size, 0, none⟩ = some (.int .u32 2) := (B3.out.2.2.below b B3.out.2.2.lt).cell 0
  have B4 : Hid (Below q w w3) := B3.out.1.trans (b.mono B3.out.2.1)
  clear b b3 n3
  go_wp2
  go_ret
  exact ⟨rfl, B4.out⟩
end Go.Proofs.Ytkegpgmmlmineaa
