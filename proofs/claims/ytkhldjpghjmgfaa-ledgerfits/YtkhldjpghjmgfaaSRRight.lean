/- What one call of the document's Right does. -/
import Derived.Test.YtkhldjpghjmgfaaSSh
namespace Go.Proofs.Ytkhldjpghjmgfaa
open Go.RowKit
set_option linter.unusedVariables false
set_option maxRecDepth 4000

def pw (k : Nat) : Int := 64 * 2 ^ k
theorem pw_at : ∀ k : Fin 7, Powers[k.val]? = some (pw k.val) ∧ 64 ≤ pw k.val ∧ pw k.val ≤ 4096 ∧ pw (k.val + 1) = 2 * pw k.val := by decide
theorem pw_mem {b : Int} {k : Nat} (h : k < 7) : decide (b ∈ Powers.take (k + 1)) = (decide (b ∈ Powers.take k) || decide (pw k = b)) := by
  rw [take_snoc (pw_at ⟨k, h⟩).1, ← Bool.decide_or]
  apply decide_eq_decide.2
  simp [eq_comm]

set_option maxHeartbeats 2000000 in
theorem rRight_of (s : Sh) (w : World) (hz : -9223372036854775808 ≤ s.z) :
    Calls Try.prog 28 #[.agg (shL s).toArray] w fun e w' => e = .returned (.bool (decide (RightS s))) ∧ Below w.heap.size w w' := by
  obtain ⟨z, zb, b, r⟩ := s
  obtain ⟨B, hB⟩ : ∃ B, B = decide (RightS ⟨z, zb, b, r⟩) := ⟨_, rfl⟩
  rw [← hB]
  have HB : Hid (B = decide (RightS ⟨z, zb, b, r⟩)) := hB
  clear hB
  obtain ⟨W, hW⟩ : ∃ W, W = w.alloc (.cells #[.int .i64 z, .int .i64 zb, .int .i64 b, .int .i64 r] 23) := ⟨_, rfl⟩
  have bw : Hid (Below w.heap.size w W) := by
    show Below _ _ _
    rw [hW]; exact (Below.refl _ _).alloc (Nat.le_refl _) _
  have hb : Blk W w.heap.size [.int .i64 z, .int .i64 zb, .int .i64 b, .int .i64 r] 23 := by rw [hW]; exact Blk.new' rfl rfl
  have c0 : W.cell? ⟨w.heap.size, 0, none⟩ = some (.int .i64 z) := hb.cell 0
  have c1 : W.cell? ⟨w.heap.size, 1, none⟩ = some (.int .i64 zb) := hb.cell 1
  have c2 : W.cell? ⟨w.heap.size, 2, none⟩ = some (.int .i64 b) := hb.cell 2
  have c3 : W.cell? ⟨w.heap.size, 3, none⟩ = some (.int .i64 r) := hb.cell 3
  simp only [shL]
  dsimp only at hz
  go_enter Try.func28, Try.ntmps28
  go_upto_region 1 with fail
  generalize hq : w.heap.size = q at *
  rw [← hW]
  clear hW hb
  go_wp2
  go_loopw [3, 4] (fun p n wr => ∃ k : Nat, k ≤ 7 ∧ p = .bool (decide (b ∈ Powers.take k)) ∧ n = .int .i64 (pw k) ∧ wr = W) (fun p n wr => 8192 - (intOf n).toNat)
  case atStart => exact ⟨0, by omega, by simp, rfl, rfl⟩
  case round =>
    obtain ⟨k, hk, rfl, rfl, rfl⟩ := hrel
    rcases Nat.lt_or_ge k 7 with h7 | h7
    · obtain ⟨n0, n1, n2, n3⟩ := pw_at ⟨k, h7⟩
      clear n0
      have hm := pw_mem (b := b) h7
      have HM : Hid (decide (b ∈ Powers.take (k + 1)) = (decide (b ∈ Powers.take k) || decide (pw k = b)) ∧ pw (k + 1) = 2 * pw k ∧ k < 7 ∧ 64 ≤ pw k) := ⟨hm, n3, h7, n1⟩
      dsimp only at n1 n2
      generalize hN : pw k = N at *
      have hw : IntKind.i64.wrap (2 * N) = 2 * N := by rw [IntKind.wrap_i64]; omega
      generalize hP : decide (b ∈ Powers.take k) = P at *
      clear hm h7 hk hN hP n3 n1
      cases P with
      | true =>
        go_wp2
        go_roundw
        case rel => exact ⟨k + 1, by have := HM.out.2.2.1; omega, by rw [HM.out.1]; rfl, by rw [HM.out.2.1], (by first | rfl | trivial)⟩
        case measure => have := HM.out.2.2.2; simp [intOf]; omega
      | false =>
        go_wp2
        go_roundw
        case rel => exact ⟨k + 1, by have := HM.out.2.2.1; omega, (by rw [HM.out.1]; simp; rfl), by rw [HM.out.2.1], (by first | rfl | trivial)⟩
        case measure => have := HM.out.2.2.2; simp [intOf]; omega
    · have hk7 : k = 7 := by omega
      subst hk7
      have e7 : pw 7 = 8192 := rfl
      have t7 : Powers.take 7 = Powers := rfl
      rw [e7, t7]
      clear hk h7
      by_cases h0 : 6 ≤ z
      · by_cases h1 : z ≤ 256
        · by_cases h2 : 8 ≤ zb
          · by_cases h3 : zb ≤ 4096
            · by_cases h4 : b ∈ Powers
              · by_cases h5 : 2 ≤ r
                · have hf : B = decide (r ≤ z - 4) := by rw [HB.out]; exact decide_eq_decide.2 ⟨fun h => h.2.2.2.2.2.2, fun h => ⟨h0, h1, h2, h3, h4, h5, h⟩⟩
                  clear HB
                  subst hf
                  rw [decide_eq_true h4]
                  clear h4
                  have hw4 : IntKind.i64.wrap (z - 4) = z - 4 := by rw [IntKind.wrap_i64]; omega
                  go_wp2
                  go_ret
                  exact ⟨by simp, by first | exact bw.out | (rw [hq]; exact bw.out)⟩
                · have hf : B = false := by rw [HB.out]; exact decide_eq_false (fun h => h5 h.2.2.2.2.2.1)
                  clear HB
                  subst hf
                  rw [decide_eq_true h4]
                  clear h4
                  go_wp2
                  go_ret
                  exact ⟨rfl, by first | exact bw.out | (rw [hq]; exact bw.out)⟩
              · have hf : B = false := by rw [HB.out]; exact decide_eq_false (fun h => h4 h.2.2.2.2.1)
                clear HB
                subst hf
                rw [decide_eq_false h4]
                clear h4
                go_wp2
                go_ret
                exact ⟨rfl, by first | exact bw.out | (rw [hq]; exact bw.out)⟩
            · have hf : B = false := by rw [HB.out]; exact decide_eq_false (fun h => h3 h.2.2.2.1)
              clear HB
              subst hf
              generalize decide (b ∈ Powers) = P
              go_wp2
              go_ret
              exact ⟨rfl, by first | exact bw.out | (rw [hq]; exact bw.out)⟩
          · have hf : B = false := by rw [HB.out]; exact decide_eq_false (fun h => h2 h.2.2.1)
            clear HB
            subst hf
            generalize decide (b ∈ Powers) = P
            go_wp2
            go_ret
            exact ⟨rfl, by first | exact bw.out | (rw [hq]; exact bw.out)⟩
        · have hf : B = false := by rw [HB.out]; exact decide_eq_false (fun h => h1 h.2.1)
          clear HB
          subst hf
          generalize decide (b ∈ Powers) = P
          go_wp2
          go_ret
          exact ⟨rfl, by first | exact bw.out | (rw [hq]; exact bw.out)⟩
      · have hf : B = false := by rw [HB.out]; exact decide_eq_false (fun h => h0 h.1)
        clear HB
        subst hf
        generalize decide (b ∈ Powers) = P
        go_wp2
        go_ret
        exact ⟨rfl, by first | exact bw.out | (rw [hq]; exact bw.out)⟩
end Go.Proofs.Ytkhldjpghjmgfaa
