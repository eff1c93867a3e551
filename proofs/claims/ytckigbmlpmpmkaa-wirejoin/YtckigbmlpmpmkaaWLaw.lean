/- What Take tells, for the laws: its lengths, that its numbers fit; one number at a time. -/
import Derived.Test.YtckigbmlpmpmkaaWRefT
namespace Go.Proofs.Ytckigbmlpmpmkaa
open Go.RowKit
set_option linter.unusedVariables false
set_option maxRecDepth 4000

theorem takeV_len (xs ws : List Int) : (takeV xs ws).length ≤ ws.length := by
  unfold takeV
  split
  · rw [valL_length]; exact Nat.le_refl _
  · simp
theorem takeR_len (xs ws : List Int) : (takeR xs ws).length ≤ xs.length := by
  unfold takeR
  split
  · rw [List.length_drop]; omega
  · simp
theorem takeV_fits (xs ws : List Int) (h : ∀ z ∈ xs, Fits8 z) : ∀ v ∈ takeV xs ws, FitsU v := by
  unfold takeV
  split
  · exact valL_fits ws xs h
  · simp
theorem takeV_wf (xs ws : List Int) (h : ∀ z ∈ xs, Fits8 z) : ∀ v ∈ takeV xs ws, (Lit.int .u64 v).wf = true := fun v hv => wfU (takeV_fits xs ws h v hv)
theorem takeR_fits (xs ws : List Int) (h : ∀ z ∈ xs, Fits8 z) : ∀ z ∈ takeR xs ws, Fits8 z := by
  unfold takeR
  split
  · exact fun z hz => h z (List.mem_of_mem_drop hz)
  · simp
/-- The front of a slice, as slicing leaves it, in whatever world. -/
theorem slice_front {t : TypeId} (ht : Try.prog.underlying t = some (.slice (Try.prog.elem t))) (hz : ∀ w : World, (sizeOf (Try.prog.elem t)).run Try.prog w = .ok 1 w) (a : Option Addr) (n c k : Nat) (hk : k ≤ c) (w : World) :
    (Instr.slice t (.slice a n c) none (some (.int .i64 (k : Int))) none).run Try.prog w = .ok (.slice a k c) w := by
  rw [run_slice_h (P := Try.prog) w t a n c ht .i64 k (by omega) (by omega), hz w]
  simp only [Result.andThen, Int.toNat_natCast]
  unfold sliced
  cases a with
  | none => simp
  | some x => simp [Addr.add]
theorem slice_back {t : TypeId} (ht : Try.prog.underlying t = some (.slice (Try.prog.elem t))) (hz : ∀ w : World, (sizeOf (Try.prog.elem t)).run Try.prog w = .ok 1 w) (a : Option Addr) (n c k : Nat) (hk : k ≤ n) (w : World) :
    (Instr.slice t (.slice a n c) (some (.int .i64 (k : Int))) none none).run Try.prog w = .ok (.slice (if c = k then a else a.map (·.add k)) (n - k) (c - k)) w := by
  rw [run_slice_l (P := Try.prog) w t a n c ht .i64 k (by omega) (by omega), hz w]
  simp only [Result.andThen, Int.toNat_natCast]
  unfold sliced
  rw [Nat.mul_one]
theorem Try.one_ints : ∀ w : World, (sizeOf (Try.prog.elem 22)).run Try.prog w = .ok 1 w := fun _ => by kernel_rfl
theorem Try.one_u64s : ∀ w : World, (sizeOf (Try.prog.elem 23)).run Try.prog w = .ok 1 w := fun _ => by kernel_rfl
theorem Try.one_bytes : ∀ w : World, (sizeOf (Try.prog.elem 26)).run Try.prog w = .ok 1 w := fun _ => by kernel_rfl
/-- Packed in two lists, packed in one. -/
theorem pack_two (ws vs : List Int) (t : Nat) (h1 : t ≤ ws.length) (h2 : t ≤ vs.length) : packL (ws.take t) (vs.take t) ++ packL (ws.drop t) (vs.drop t) = packL ws vs := by
  rw [← packL_append _ _ _ _ (by rw [List.length_take, List.length_take]; omega), List.take_append_drop, List.take_append_drop]
end Go.Proofs.Ytckigbmlpmpmkaa
