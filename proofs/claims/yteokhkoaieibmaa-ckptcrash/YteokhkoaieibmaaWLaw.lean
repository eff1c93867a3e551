/- What Take tells, for the laws: its lengths, that its numbers fit; one number at a time. -/
import Derived.Test.YteokhkoaieibmaaWKnown
namespace Go.Proofs.Yteokhkoaieibmaa
open Go.RowKit
set_option linter.unusedVariables false
set_option maxRecDepth 4000

theorem takeV_len (xs ws : List Int) : (takeV xs ws).length ≤ ws.length := by
  unfold takeV
  split
  · rw [valL_length]; exact Nat.le_refl _
  · simp
theorem takeR_len (xs ws : List Int) : (takeR xs ws).length ≤ xs.length := by
  unfold takeR
  split
  · rw [List.length_drop]; omega
  · simp
theorem takeV_fits (xs ws : List Int) (h : ∀ z ∈ xs, Fits8 z) : ∀ v ∈ takeV xs ws, FitsU v := by
  unfold takeV
  split
  · exact valL_fits ws xs h
  · simp
theorem takeV_wf (xs ws : List Int) (h : ∀ z ∈ xs, Fits8 z) : ∀ v ∈ takeV xs ws, (Lit.int .u64 v).wf = true := fun v hv => wfU (takeV_fits xs ws h v hv)
theorem takeR_fits (xs ws : List Int) (h : ∀ z ∈ xs, Fits8 z) : ∀ z ∈ takeR xs ws, Fits8 z := by
  unfold takeR
  split
  · exact fun z hz => h z (List.mem_of_mem_drop hz)
  · simp
/-- The front of a slice, as slicing leaves it, in whatever world. -/
theorem slice_front {t : TypeId} (ht : Try.prog.underlying t = some (.slice (Try.prog.elem t))) (hz : ∀ w : World, (sizeOf (Try.prog.elem t)).run Try.prog w = .ok 1 w) (a : Option Addr) (n c k : Nat) (hk : k ≤ c) (w : World) :
    (Instr.slice t (.slice a n c) none (some (.int .i64 (k : Int))) none).run Try.prog w = .ok (.slice a k c) w := by
  rw [run_slice_h (P := Try.prog) w t a n c ht .i64 k (by omega) (by omega), hz w]
  simp only [Result.andThen, Int.toNat_natCast]
  unfold sliced
  cases a with
  | none => simp
  | some x => simp [Addr.add]
theorem slice_back {t : TypeId} (ht : Try.prog.underlying t = some (.slice (Try.prog.elem t))) (hz : ∀ w : World, (sizeOf (Try.prog.elem t)).run Try.prog w = .ok 1 w) (a : Option Addr) (n c k : Nat) (hk : k ≤ n) (w : World) :
    (Instr.slice t (.slice a n c) (some (.int .i64 (k : Int))) none none).run Try.prog w = .ok (.slice (if c = k then a else a.map (·.add k)) (n - k) (c - k)) w := by
  rw [run_slice_l (P := Try.prog) w t a n c ht .i64 k (by omega) (by omega), hz w]
  simp only [Result.andThen, Int.toNat_natCast]
  unfold sliced
  rw [Nat.mul_one]
theorem Try.one_ints : ∀ w : World, (sizeOf (Try.prog.elem 85)).run Try.prog w = .ok 1 w := fun _ => by kernel_rfl
theorem Try.one_u64s : ∀ w : World, (sizeOf (Try.prog.elem 86)).run Try.prog w = .ok 1 w := fun _ => by kernel_rfl
theorem Try.one_bytes : ∀ w : World, (sizeOf (Try.prog.elem 39)).run Try.prog w = .ok 1 w := fun _ => by kernel_rfl
/-- Packed in two lists, packed in one. -/
theorem pack_two (ws vs : List Int) (t : Nat) (h1 : t ≤ ws.length) (h2 : t ≤ vs.length) : packL (ws.take t) (vs.take t) ++ packL (ws.drop t) (vs.drop t) = packL ws vs := by
  rw [← packL_append _ _ _ _ (by rw [List.length_take, List.length_take]; omega), List.take_append_drop, List.take_append_drop]
/-- What is packed is taken, whatever stands behind; with a byte less it is not. -/
theorem back_yes (ws vs more : List Int) (h : ws.length ≤ vs.length) : offL ws ≤ (packL ws vs ++ more).length := by
  rw [List.length_append, packL_length ws vs h]; omega
theorem back_vals (ws vs more : List Int) (h : ws.length ≤ vs.length) (hf : ∀ v ∈ vs, FitsU v) : takeV (packL ws vs ++ more) ws = modL ws vs := by
  unfold takeV; rw [if_pos (back_yes ws vs more h), val_pack ws vs more h hf]
theorem back_rest (ws vs more : List Int) (h : ws.length ≤ vs.length) : takeR (packL ws vs ++ more) ws = more := by
  unfold takeR; rw [if_pos (back_yes ws vs more h), drop_pack ws vs more h]
theorem modL_length : ∀ (a c : List Int), a.length ≤ c.length → (modL a c).length = a.length := by
  intro a
  induction a with
  | nil => intro c _; cases c <;> rfl
  | cons x a ih =>
    intro c h
    cases c with
    | nil => simp at h
    | cons v c => simp only [modL, List.length_cons]; rw [ih c (by simpa using h)]
theorem modL_fits : ∀ (a c : List Int), (∀ v ∈ c, FitsU v) → ∀ z ∈ modL a c, (Lit.int .u64 z).wf = true := by
  intro a
  induction a with
  | nil => intro c _ z hz; cases c <;> simp [modL] at hz
  | cons x a ih =>
    intro c h z hz
    cases c with
    | nil => simp [modL] at hz
    | cons v c =>
      simp only [modL, List.mem_cons] at hz
      rcases hz with rfl | hz
      · refine wfU ?_
        have hp : (0 : Int) < 256 ^ wd x := Int.pow_pos (by decide)
        have h0 := Int.emod_nonneg v (Int.ne_of_gt hp)
        have h1 := Int.emod_lt_of_pos v hp
        have h2 : (256 : Int) ^ wd x ≤ 256 ^ 8 := by exact_mod_cast Nat.pow_le_pow_right (n := 256) (by decide) (wd_le x)
        have h3 : (256 : Int) ^ 8 = 18446744073709551616 := by decide
        unfold FitsU
        omega
      · exact ih c (fun y hy => h y (by simp [hy])) z hz
theorem wd_cases (x : Int) : wd x = 1 ∨ wd x = 2 ∨ wd x = 4 ∨ wd x = 8 := by unfold wd; split <;> (try split) <;> (try split) <;> omega
end Go.Proofs.Yteokhkoaieibmaa
