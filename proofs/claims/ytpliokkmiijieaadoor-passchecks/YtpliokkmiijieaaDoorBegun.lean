/- What one call of begun does. -/
import Derived.Test.YtpliokkmiijieaaDoorMacI
namespace Go.Proofs.YtpliokkmiijieaaDoor
open Go.RowKit
set_option linter.unusedVariables false
set_option maxRecDepth 4000

set_option maxHeartbeats 1000000 in
theorem begun_of (B : List Int) (w : World) (k : Nat) (hk : w.heap.size = k) (hG : GIn w) (hB : B.length = 64) (hf : ∀ z ∈ B, Fits8 z) :
    Calls Tryd.prog 39 #[.agg (u8s B).toArray] w fun e w' => e = .returned (.pointer (some ⟨k + 1, 0, none⟩)) ∧ HIn w' (k + 1) (takeI st0 B) ∧ Below k w w' := by
  obtain ⟨C, hC⟩ : ∃ C, C = (u8s B).toArray := ⟨_, rfl⟩
  rw [← hC]
  have HB : Hid ((B.length = 64 ∧ C = (u8s B).toArray ∧ ∀ z ∈ B, Fits8 z) ∧ GIn w ∧ w.heap.size = k ∧ 1 < k) := ⟨⟨hB, hC, hf⟩, hG, hk, by have := hG.lt; omega⟩
  clear hB hC hf hG
  go_enter Tryd.func39, Tryd.ntmps39
  go_upto_region 1 with fail
  generalize hV : World.alloc _ _ = V
  have pv : Blk V k (u8s B) 80 ∧ Below k w V ∧ V.heap.size = k + 1 := by
    rw [← hV]
    exact ⟨Blk.new' hk HB.out.1.2.1, (Below.refl _ _).alloc (by omega) _, by simp [hk]⟩
  clear hV hk
  obtain ⟨p0, p1, p2⟩ := pv
  have hg : GIn V := HB.out.2.1.below p1 HB.out.2.2.2
  go_upto_region 2 with (go_at_call 53; refine (new_of V (k + 1) p2 hg.1).mono ?_; rintro e w1 ⟨rfl, h1, b1, z1⟩)
  have q0 : Blk w1 k (u8s B) 80 := p0.below b1 (by omega)
  have q1 : Below k w w1 := p1.trans (b1.mono (by omega))
  have HK : Hid (KIn w1) := (hg.below b1 (by have := HB.out; omega)).2
  have hsl := fun w => run_whole (P := Tryd.prog) Tryd.underlying80 Tryd.byte1 w k 0 (by omega)
  clear hg p0 p1 p2 b1
  go_wp2_with (go_at_call 41; refine (write_of (k + 1) 64 64 (some ⟨k, 0, none⟩) B st0 w1 h1 (q0.lin HB.out.1.2.2 HB.out.1.1 (by unfold maxLen; omega) (by omega)) HK.out (by have := HB.out; omega) (by decide) (by omega)).mono ?_; rintro e w2 ⟨rfl, h2, o2⟩)
  go_ret
  exact ⟨rfl, h2, q1.trans (o2.below (by omega) (by omega))⟩
end Go.Proofs.YtpliokkmiijieaaDoor
