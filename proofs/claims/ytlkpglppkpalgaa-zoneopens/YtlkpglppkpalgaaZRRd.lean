/- What one call of the document's Read does. -/
import Derived.Test.YtlkpglppkpalgaaZRd
import Derived.Test.YtlkpglppkpalgaaZRefOps
namespace Go.Proofs.Ytlkpglppkpalgaa
open Go.RowKit Go.Shelf
set_option linter.unusedVariables false
set_option maxRecDepth 4000
section
variable {O : Nat → Prop} {W : World} {p : Nat} {s : Sh} {zs : List Zn}
set_option maxHeartbeats 4000000 in
theorem rRead_of (zn bn : Int) (hd : Dv 71 O W p s zs) (hw : Wf s zs) :
    Calls Try.prog 33 #[.pointer (some ⟨p, 0, none⟩), .agg #[.int .i64 zn, .int .i64 bn]] W (ReadE .i64 W zs zn bn) := by
  obtain ⟨q, hq⟩ : ∃ q, q = W.heap.size := ⟨_, rfl⟩
  have ab : Blk (W.alloc (.cells #[.int .i64 zn, .int .i64 bn] 59)) q [.int .i64 zn, .int .i64 bn] 59 := Blk.new' hq.symm rfl
  have abel : Below q W (W.alloc (.cells #[.int .i64 zn, .int .i64 bn] 59)) := (Below.refl _ _).alloc (by omega) _
  have hd1 : Dv 71 O (W.alloc (.cells #[.int .i64 zn, .int .i64 bn] 59)) p s zs := by
    obtain ⟨g, c, vs, hv⟩ := hd; exact ⟨g, c, vs, hv.under (by rw [← hq]; exact abel)⟩
  go_enter Try.func33, Try.ntmps33
  go_upto_region 1 with fail
  rw [← hq]
  generalize hW1 : World.alloc _ _ = W1 at *
  clear hW1
  have e0 : W1.cell? ⟨q, 0, none⟩ = some (.int .i64 zn) := ab.cell 0
  have e1 : W1.cell? ⟨q, 1, none⟩ = some (.int .i64 bn) := ab.cell 1
  have HA : Hid (Below W.heap.size W W1 ∧ Wf s zs) := ⟨by rw [← hq]; exact abel, hw⟩
  clear ab abel hd hw hq
  obtain ⟨g, cz, vs, hv⟩ := hd1
  obtain ⟨p0, p1, p2, p3, c4⟩ := hv.pcell
  rcases zone_cases zs zn with ⟨i, z, rfl, hz, hi, hbb⟩ | ⟨hno, hbb⟩
  · obtain ⟨ua, uc, hu, hr, z0, z1⟩ := hv.at hz
    have hi' : (i : Int) < zs.length := by omega
    have hi0 : decide ((i : Int) < 0) = false := by simp
    have hi1 : decide ((zs.length : Int) ≤ (i : Int)) = false := by simp; omega
    have hi2 : decide (zs.length ≤ i) = false := by simp; omega
    have hzi : zoneIn zs i := ⟨by omega, by omega⟩
    clear hbb
    by_cases hbi : 0 ≤ bn ∧ bn ≤ (z.1.length : Int) - 1
    · obtain ⟨j, rfl⟩ : ∃ j : Nat, bn = j := ⟨bn.toNat, by omega⟩
      have hj : j < z.1.length := by omega
      obtain ⟨D, hD⟩ : ∃ D, z.1[j]? = some D := ⟨z.1[j], by simp⟩
      obtain ⟨b, off, A, L, C, rfl, k1, k2, k3, k4⟩ := hv.block HA.out.2 hz hu hD
      have HI : Hid (∀ V, Below W1.heap.size W1 V → Calls Try.prog 46 #[.slice A L C] V (LentE V D)) := fun V hV => rLent_of A L C D V (k2.below hV) k3 (by omega)
      have HZ : Hid (zs[i]? = some z ∧ z.1[j]? = some D) := ⟨hz, hD⟩
      have hj' : (j : Int) < z.1.length := by omega
      have hj0 : decide ((j : Int) < 0) = false := by simp
      have hj1 : decide ((z.1.length : Int) ≤ (j : Int)) = false := by simp; omega
      have hj2 : decide (z.1.length ≤ j) = false := by simp; omega
      clear k2 k3 k4 hv hr hu hz hD hbi
      go_quiet (fail)
      go_wp2
      go_quiet (fail)
      go_wp2
      go_region_held3 (fun w' => w'.cell? ⟨p, 4, none⟩ = some (.slice (some ⟨g, 0, none⟩) zs.length cz) ∧ w'.cell? ⟨q, 0, none⟩ = some (.int .i64 i) ∧ w'.cell? ⟨q, 1, none⟩ = some (.int .i64 j) ∧ w'.cell? ⟨g, i * 2, none⟩ = some (.slice (some ⟨b, off, none⟩) z.1.length uc) ∧ w'.cell? ⟨b, off + j, none⟩ = some (.slice A L C)) (first | exact ⟨c4, e0, e1, z0, k1⟩ | exact ⟨m4, m0, m1, n0, n1⟩)
        ((go_at_call 46; refine (HI.out _ (by exact ⟨rfl, rfl, rfl, Nat.le_refl _, fun _ _ => rfl⟩)).mono ?_; rintro e w3 ⟨h3, rfl, bk3, bl3⟩; have m4 := (bl3.cell (old_block c4)).trans c4; have m0 := (bl3.cell (old_block e0)).trans e0; have m1 := (bl3.cell (old_block e1)).trans e1; have n0 := (bl3.cell (old_block z0)).trans z0; have n1 := (bl3.cell (old_block k1)).trans k1))
      go_wp2
      go_ret2
      have hsz := HA.out.1.size
      have bl4 : Below W1.heap.size W1 w3 := ⟨bl3.os, bl3.tape, bl3.output, bl3.size, bl3.block⟩
      exact read_ok HZ.out.1 HZ.out.2 (bk3.mono (fun x hx _ => Nat.le_trans hsz hx)) (HA.out.1.trans (bl4.mono hsz))
    · have HN : Hid (zoneIn zs i ∧ ¬ blockIn zs i bn) := ⟨hzi, by unfold blockIn; rw [atZ_in hz]; exact hbi⟩
      by_cases hb0 : bn < 0
      · clear hv hr hu hz hbi hzi
        go_quiet (fail)
        go_wp2
        go_quiet (fail)
        go_wp2
        go_ret2
        exact read_none HN.out.1 HN.out.2 (HA.out.1.trans ⟨rfl, rfl, rfl, Nat.le_refl _, fun _ _ => rfl⟩)
      · have hge : (z.1.length : Int) ≤ bn := by omega
        have b0 : decide (bn < 0) = false := by simp; omega
        have b1 : decide ((z.1.length : Int) ≤ bn) = true := by simp; omega
        clear hv hr hu hz hbi hzi
        go_quiet (fail)
        go_wp2
        go_quiet (fail)
        go_wp2
        go_ret2
        exact read_none HN.out.1 HN.out.2 (HA.out.1.trans ⟨rfl, rfl, rfl, Nat.le_refl _, fun _ _ => rfl⟩)
  · have HN : Hid (¬ zoneIn zs zn) := hno
    rcases out_cases hno with h | ⟨h1, h2⟩
    · have hb : decide (zn < 0) = true := by simp [h]
      clear hbb hno hv
      go_quiet (fail)
      go_wp2
      go_ret2
      exact read_no HN.out (HA.out.1.trans ⟨rfl, rfl, rfl, Nat.le_refl _, fun _ _ => rfl⟩)
    · have hb : decide (zn < 0) = false := by simp; omega
      have hb2 : decide ((zs.length : Int) ≤ zn) = true := by simp [h2]
      clear hbb hno hv
      go_quiet (fail)
      go_wp2
      go_ret2
      exact read_no HN.out (HA.out.1.trans ⟨rfl, rfl, rfl, Nat.le_refl _, fun _ _ => rfl⟩)
end
end Go.Proofs.Ytlkpglppkpalgaa
