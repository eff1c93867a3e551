/- What one call of ror, of the library's RotateLeft32 and of the document's own ror does, at each number of bits that the chapter names: the plain function's number; it touches nothing. -/
import Derived.Test.YtpliokkmiijieaaDoorProg
import Derived.Test.YtpliokkmiijieaaDoorMath
import Derived.WalkKit
import Derived.WalkSpells
import Derived.WalkLawsBesides
namespace Go.Proofs.YtpliokkmiijieaaDoor
open Go.RowKit
set_option linter.unusedVariables false

theorem ret_u32 {a b : Int} (h : a = b) : Ending.returned (.int .u32 a) = .returned (.int .u32 b) := by rw [h]

theorem rotl_2 (v : Int) (w : World) (h : Fits32 v) :
    Calls Tryd.prog 66 #[.int .u32 v, .int .i64 (-2)] w fun e w' => e = .returned (.int .u32 (rorI 1073741824 4 v)) ∧ w' = w := by
  obtain ⟨h0, h1⟩ := h
  have hb : bits .and .u64 (IntKind.u64.wrap (-2)) 31 = 30 := by kernel_rfl
  go_enter Tryd.func66, Tryd.ntmps66
  go_wp2
  go_ret
  exact ⟨rfl, rfl⟩
theorem ror_2 (v : Int) (w : World) (h : Fits32 v) :
    Calls Tryd.prog 65 #[.int .u32 v, .int .i64 2] w fun e w' => e = .returned (.int .u32 (rorI 1073741824 4 v)) ∧ w' = w := by
  go_enter Tryd.func65, Tryd.ntmps65
  go_wp2_with (go_at_call 66; refine (rotl_2 _ _ h).mono ?_; rintro e w' ⟨rfl, rfl⟩)
  go_ret
  exact ⟨rfl, rfl⟩
theorem refror_2 (v : Int) (w : World) (h : Fits32 v) :
    Calls Tryd.prog 64 #[.int .u32 v, .int .i64 2] w fun e w' => e = .returned (.int .u32 (rorI 1073741824 4 v)) ∧ w' = w := by
  have H : Hid (Fits32 v) := h
  obtain ⟨h0, h1⟩ := h
  go_enter Tryd.func64, Tryd.ntmps64
  go_wp2
  go_ret
  exact ⟨ret_u32 (rorI_turn (by omega) (by omega) H.out), rfl⟩

theorem rotl_6 (v : Int) (w : World) (h : Fits32 v) :
    Calls Tryd.prog 66 #[.int .u32 v, .int .i64 (-6)] w fun e w' => e = .returned (.int .u32 (rorI 67108864 64 v)) ∧ w' = w := by
  obtain ⟨h0, h1⟩ := h
  have hb : bits .and .u64 (IntKind.u64.wrap (-6)) 31 = 26 := by kernel_rfl
  go_enter Tryd.func66, Tryd.ntmps66
  go_wp2
  go_ret
  exact ⟨rfl, rfl⟩
theorem ror_6 (v : Int) (w : World) (h : Fits32 v) :
    Calls Tryd.prog 65 #[.int .u32 v, .int .i64 6] w fun e w' => e = .returned (.int .u32 (rorI 67108864 64 v)) ∧ w' = w := by
  go_enter Tryd.func65, Tryd.ntmps65
  go_wp2_with (go_at_call 66; refine (rotl_6 _ _ h).mono ?_; rintro e w' ⟨rfl, rfl⟩)
  go_ret
  exact ⟨rfl, rfl⟩
theorem refror_6 (v : Int) (w : World) (h : Fits32 v) :
    Calls Tryd.prog 64 #[.int .u32 v, .int .i64 6] w fun e w' => e = .returned (.int .u32 (rorI 67108864 64 v)) ∧ w' = w := by
  have H : Hid (Fits32 v) := h
  obtain ⟨h0, h1⟩ := h
  go_enter Tryd.func64, Tryd.ntmps64
  go_wp2
  go_ret
  exact ⟨ret_u32 (rorI_turn (by omega) (by omega) H.out), rfl⟩

theorem rotl_7 (v : Int) (w : World) (h : Fits32 v) :
    Calls Tryd.prog 66 #[.int .u32 v, .int .i64 (-7)] w fun e w' => e = .returned (.int .u32 (rorI 33554432 128 v)) ∧ w' = w := by
  obtain ⟨h0, h1⟩ := h
  have hb : bits .and .u64 (IntKind.u64.wrap (-7)) 31 = 25 := by kernel_rfl
  go_enter Tryd.func66, Tryd.ntmps66
  go_wp2
  go_ret
  exact ⟨rfl, rfl⟩
theorem ror_7 (v : Int) (w : World) (h : Fits32 v) :
    Calls Tryd.prog 65 #[.int .u32 v, .int .i64 7] w fun e w' => e = .returned (.int .u32 (rorI 33554432 128 v)) ∧ w' = w := by
  go_enter Tryd.func65, Tryd.ntmps65
  go_wp2_with (go_at_call 66; refine (rotl_7 _ _ h).mono ?_; rintro e w' ⟨rfl, rfl⟩)
  go_ret
  exact ⟨rfl, rfl⟩
theorem refror_7 (v : Int) (w : World) (h : Fits32 v) :
    Calls Tryd.prog 64 #[.int .u32 v, .int .i64 7] w fun e w' => e = .returned (.int .u32 (rorI 33554432 128 v)) ∧ w' = w := by
  have H : Hid (Fits32 v) := h
  obtain ⟨h0, h1⟩ := h
  go_enter Tryd.func64, Tryd.ntmps64
  go_wp2
  go_ret
  exact ⟨ret_u32 (rorI_turn (by omega) (by omega) H.out), rfl⟩

theorem rotl_11 (v : Int) (w : World) (h : Fits32 v) :
    Calls Tryd.prog 66 #[.int .u32 v, .int .i64 (-11)] w fun e w' => e = .returned (.int .u32 (rorI 2097152 2048 v)) ∧ w' = w := by
  obtain ⟨h0, h1⟩ := h
  have hb : bits .and .u64 (IntKind.u64.wrap (-11)) 31 = 21 := by kernel_rfl
  go_enter Tryd.func66, Tryd.ntmps66
  go_wp2
  go_ret
  exact ⟨rfl, rfl⟩
theorem ror_11 (v : Int) (w : World) (h : Fits32 v) :
    Calls Tryd.prog 65 #[.int .u32 v, .int .i64 11] w fun e w' => e = .returned (.int .u32 (rorI 2097152 2048 v)) ∧ w' = w := by
  go_enter Tryd.func65, Tryd.ntmps65
  go_wp2_with (go_at_call 66; refine (rotl_11 _ _ h).mono ?_; rintro e w' ⟨rfl, rfl⟩)
  go_ret
  exact ⟨rfl, rfl⟩
theorem refror_11 (v : Int) (w : World) (h : Fits32 v) :
    Calls Tryd.prog 64 #[.int .u32 v, .int .i64 11] w fun e w' => e = .returned (.int .u32 (rorI 2097152 2048 v)) ∧ w' = w := by
  have H : Hid (Fits32 v) := h
  obtain ⟨h0, h1⟩ := h
  go_enter Tryd.func64, Tryd.ntmps64
  go_wp2
  go_ret
  exact ⟨ret_u32 (rorI_turn (by omega) (by omega) H.out), rfl⟩

theorem rotl_13 (v : Int) (w : World) (h : Fits32 v) :
    Calls Tryd.prog 66 #[.int .u32 v, .int .i64 (-13)] w fun e w' => e = .returned (.int .u32 (rorI 524288 8192 v)) ∧ w' = w := by
  obtain ⟨h0, h1⟩ := h
  have hb : bits .and .u64 (IntKind.u64.wrap (-13)) 31 = 19 := by kernel_rfl
  go_enter Tryd.func66, Tryd.ntmps66
  go_wp2
  go_ret
  exact ⟨rfl, rfl⟩
theorem ror_13 (v : Int) (w : World) (h : Fits32 v) :
    Calls Tryd.prog 65 #[.int .u32 v, .int .i64 13] w fun e w' => e = .returned (.int .u32 (rorI 524288 8192 v)) ∧ w' = w := by
  go_enter Tryd.func65, Tryd.ntmps65
  go_wp2_with (go_at_call 66; refine (rotl_13 _ _ h).mono ?_; rintro e w' ⟨rfl, rfl⟩)
  go_ret
  exact ⟨rfl, rfl⟩
theorem refror_13 (v : Int) (w : World) (h : Fits32 v) :
    Calls Tryd.prog 64 #[.int .u32 v, .int .i64 13] w fun e w' => e = .returned (.int .u32 (rorI 524288 8192 v)) ∧ w' = w := by
  have H : Hid (Fits32 v) := h
  obtain ⟨h0, h1⟩ := h
  go_enter Tryd.func64, Tryd.ntmps64
  go_wp2
  go_ret
  exact ⟨ret_u32 (rorI_turn (by omega) (by omega) H.out), rfl⟩

theorem rotl_17 (v : Int) (w : World) (h : Fits32 v) :
    Calls Tryd.prog 66 #[.int .u32 v, .int .i64 (-17)] w fun e w' => e = .returned (.int .u32 (rorI 32768 131072 v)) ∧ w' = w := by
  obtain ⟨h0, h1⟩ := h
  have hb : bits .and .u64 (IntKind.u64.wrap (-17)) 31 = 15 := by kernel_rfl
  go_enter Tryd.func66, Tryd.ntmps66
  go_wp2
  go_ret
  exact ⟨rfl, rfl⟩
theorem ror_17 (v : Int) (w : World) (h : Fits32 v) :
    Calls Tryd.prog 65 #[.int .u32 v, .int .i64 17] w fun e w' => e = .returned (.int .u32 (rorI 32768 131072 v)) ∧ w' = w := by
  go_enter Tryd.func65, Tryd.ntmps65
  go_wp2_with (go_at_call 66; refine (rotl_17 _ _ h).mono ?_; rintro e w' ⟨rfl, rfl⟩)
  go_ret
  exact ⟨rfl, rfl⟩
theorem refror_17 (v : Int) (w : World) (h : Fits32 v) :
    Calls Tryd.prog 64 #[.int .u32 v, .int .i64 17] w fun e w' => e = .returned (.int .u32 (rorI 32768 131072 v)) ∧ w' = w := by
  have H : Hid (Fits32 v) := h
  obtain ⟨h0, h1⟩ := h
  go_enter Tryd.func64, Tryd.ntmps64
  go_wp2
  go_ret
  exact ⟨ret_u32 (rorI_turn (by omega) (by omega) H.out), rfl⟩

theorem rotl_18 (v : Int) (w : World) (h : Fits32 v) :
    Calls Tryd.prog 66 #[.int .u32 v, .int .i64 (-18)] w fun e w' => e = .returned (.int .u32 (rorI 16384 262144 v)) ∧ w' = w := by
  obtain ⟨h0, h1⟩ := h
  have hb : bits .and .u64 (IntKind.u64.wrap (-18)) 31 = 14 := by kernel_rfl
  go_enter Tryd.func66, Tryd.ntmps66
  go_wp2
  go_ret
  exact ⟨rfl, rfl⟩
theorem ror_18 (v : Int) (w : World) (h : Fits32 v) :
    Calls Tryd.prog 65 #[.int .u32 v, .int .i64 18] w fun e w' => e = .returned (.int .u32 (rorI 16384 262144 v)) ∧ w' = w := by
  go_enter Tryd.func65, Tryd.ntmps65
  go_wp2_with (go_at_call 66; refine (rotl_18 _ _ h).mono ?_; rintro e w' ⟨rfl, rfl⟩)
  go_ret
  exact ⟨rfl, rfl⟩
theorem refror_18 (v : Int) (w : World) (h : Fits32 v) :
    Calls Tryd.prog 64 #[.int .u32 v, .int .i64 18] w fun e w' => e = .returned (.int .u32 (rorI 16384 262144 v)) ∧ w' = w := by
  have H : Hid (Fits32 v) := h
  obtain ⟨h0, h1⟩ := h
  go_enter Tryd.func64, Tryd.ntmps64
  go_wp2
  go_ret
  exact ⟨ret_u32 (rorI_turn (by omega) (by omega) H.out), rfl⟩

theorem rotl_19 (v : Int) (w : World) (h : Fits32 v) :
    Calls Tryd.prog 66 #[.int .u32 v, .int .i64 (-19)] w fun e w' => e = .returned (.int .u32 (rorI 8192 524288 v)) ∧ w' = w := by
  obtain ⟨h0, h1⟩ := h
  have hb : bits .and .u64 (IntKind.u64.wrap (-19)) 31 = 13 := by kernel_rfl
  go_enter Tryd.func66, Tryd.ntmps66
  go_wp2
  go_ret
  exact ⟨rfl, rfl⟩
theorem ror_19 (v : Int) (w : World) (h : Fits32 v) :
    Calls Tryd.prog 65 #[.int .u32 v, .int .i64 19] w fun e w' => e = .returned (.int .u32 (rorI 8192 524288 v)) ∧ w' = w := by
  go_enter Tryd.func65, Tryd.ntmps65
  go_wp2_with (go_at_call 66; refine (rotl_19 _ _ h).mono ?_; rintro e w' ⟨rfl, rfl⟩)
  go_ret
  exact ⟨rfl, rfl⟩
theorem refror_19 (v : Int) (w : World) (h : Fits32 v) :
    Calls Tryd.prog 64 #[.int .u32 v, .int .i64 19] w fun e w' => e = .returned (.int .u32 (rorI 8192 524288 v)) ∧ w' = w := by
  have H : Hid (Fits32 v) := h
  obtain ⟨h0, h1⟩ := h
  go_enter Tryd.func64, Tryd.ntmps64
  go_wp2
  go_ret
  exact ⟨ret_u32 (rorI_turn (by omega) (by omega) H.out), rfl⟩

theorem rotl_22 (v : Int) (w : World) (h : Fits32 v) :
    Calls Tryd.prog 66 #[.int .u32 v, .int .i64 (-22)] w fun e w' => e = .returned (.int .u32 (rorI 1024 4194304 v)) ∧ w' = w := by
  obtain ⟨h0, h1⟩ := h
  have hb : bits .and .u64 (IntKind.u64.wrap (-22)) 31 = 10 := by kernel_rfl
  go_enter Tryd.func66, Tryd.ntmps66
  go_wp2
  go_ret
  exact ⟨rfl, rfl⟩
theorem ror_22 (v : Int) (w : World) (h : Fits32 v) :
    Calls Tryd.prog 65 #[.int .u32 v, .int .i64 22] w fun e w' => e = .returned (.int .u32 (rorI 1024 4194304 v)) ∧ w' = w := by
  go_enter Tryd.func65, Tryd.ntmps65
  go_wp2_with (go_at_call 66; refine (rotl_22 _ _ h).mono ?_; rintro e w' ⟨rfl, rfl⟩)
  go_ret
  exact ⟨rfl, rfl⟩
theorem refror_22 (v : Int) (w : World) (h : Fits32 v) :
    Calls Tryd.prog 64 #[.int .u32 v, .int .i64 22] w fun e w' => e = .returned (.int .u32 (rorI 1024 4194304 v)) ∧ w' = w := by
  have H : Hid (Fits32 v) := h
  obtain ⟨h0, h1⟩ := h
  go_enter Tryd.func64, Tryd.ntmps64
  go_wp2
  go_ret
  exact ⟨ret_u32 (rorI_turn (by omega) (by omega) H.out), rfl⟩

theorem rotl_25 (v : Int) (w : World) (h : Fits32 v) :
    Calls Tryd.prog 66 #[.int .u32 v, .int .i64 (-25)] w fun e w' => e = .returned (.int .u32 (rorI 128 33554432 v)) ∧ w' = w := by
  obtain ⟨h0, h1⟩ := h
  have hb : bits .and .u64 (IntKind.u64.wrap (-25)) 31 = 7 := by kernel_rfl
  go_enter Tryd.func66, Tryd.ntmps66
  go_wp2
  go_ret
  exact ⟨rfl, rfl⟩
theorem ror_25 (v : Int) (w : World) (h : Fits32 v) :
    Calls Tryd.prog 65 #[.int .u32 v, .int .i64 25] w fun e w' => e = .returned (.int .u32 (rorI 128 33554432 v)) ∧ w' = w := by
  go_enter Tryd.func65, Tryd.ntmps65
  go_wp2_with (go_at_call 66; refine (rotl_25 _ _ h).mono ?_; rintro e w' ⟨rfl, rfl⟩)
  go_ret
  exact ⟨rfl, rfl⟩
theorem refror_25 (v : Int) (w : World) (h : Fits32 v) :
    Calls Tryd.prog 64 #[.int .u32 v, .int .i64 25] w fun e w' => e = .returned (.int .u32 (rorI 128 33554432 v)) ∧ w' = w := by
  have H : Hid (Fits32 v) := h
  obtain ⟨h0, h1⟩ := h
  go_enter Tryd.func64, Tryd.ntmps64
  go_wp2
  go_ret
  exact ⟨ret_u32 (rorI_turn (by omega) (by omega) H.out), rfl⟩

def turns : List Int := [2, 6, 7, 11, 13, 17, 18, 19, 22, 25]
theorem ror_of (n v : Int) (w : World) (hn : n ∈ turns) (h : Fits32 v) :
    Calls Tryd.prog 65 #[.int .u32 v, .int .i64 n] w fun e w' => e = .returned (.int .u32 (rorN n v)) ∧ w' = w := by
  simp only [turns, List.mem_cons, List.not_mem_nil, or_false] at hn
  rcases hn with rfl | rfl | rfl | rfl | rfl | rfl | rfl | rfl | rfl | rfl
  · exact (ror_2 v w h).mono fun e w' ⟨he, hw⟩ => ⟨he.trans (ret_u32 (rorN_at (by kernel_rfl) (by kernel_rfl))), hw⟩
  · exact (ror_6 v w h).mono fun e w' ⟨he, hw⟩ => ⟨he.trans (ret_u32 (rorN_at (by kernel_rfl) (by kernel_rfl))), hw⟩
  · exact (ror_7 v w h).mono fun e w' ⟨he, hw⟩ => ⟨he.trans (ret_u32 (rorN_at (by kernel_rfl) (by kernel_rfl))), hw⟩
  · exact (ror_11 v w h).mono fun e w' ⟨he, hw⟩ => ⟨he.trans (ret_u32 (rorN_at (by kernel_rfl) (by kernel_rfl))), hw⟩
  · exact (ror_13 v w h).mono fun e w' ⟨he, hw⟩ => ⟨he.trans (ret_u32 (rorN_at (by kernel_rfl) (by kernel_rfl))), hw⟩
  · exact (ror_17 v w h).mono fun e w' ⟨he, hw⟩ => ⟨he.trans (ret_u32 (rorN_at (by kernel_rfl) (by kernel_rfl))), hw⟩
  · exact (ror_18 v w h).mono fun e w' ⟨he, hw⟩ => ⟨he.trans (ret_u32 (rorN_at (by kernel_rfl) (by kernel_rfl))), hw⟩
  · exact (ror_19 v w h).mono fun e w' ⟨he, hw⟩ => ⟨he.trans (ret_u32 (rorN_at (by kernel_rfl) (by kernel_rfl))), hw⟩
  · exact (ror_22 v w h).mono fun e w' ⟨he, hw⟩ => ⟨he.trans (ret_u32 (rorN_at (by kernel_rfl) (by kernel_rfl))), hw⟩
  · exact (ror_25 v w h).mono fun e w' ⟨he, hw⟩ => ⟨he.trans (ret_u32 (rorN_at (by kernel_rfl) (by kernel_rfl))), hw⟩
theorem refror_of (n v : Int) (w : World) (hn : n ∈ turns) (h : Fits32 v) :
    Calls Tryd.prog 64 #[.int .u32 v, .int .i64 n] w fun e w' => e = .returned (.int .u32 (rorN n v)) ∧ w' = w := by
  simp only [turns, List.mem_cons, List.not_mem_nil, or_false] at hn
  rcases hn with rfl | rfl | rfl | rfl | rfl | rfl | rfl | rfl | rfl | rfl
  · exact (refror_2 v w h).mono fun e w' ⟨he, hw⟩ => ⟨he.trans (ret_u32 (rorN_at (by kernel_rfl) (by kernel_rfl))), hw⟩
  · exact (refror_6 v w h).mono fun e w' ⟨he, hw⟩ => ⟨he.trans (ret_u32 (rorN_at (by kernel_rfl) (by kernel_rfl))), hw⟩
  · exact (refror_7 v w h).mono fun e w' ⟨he, hw⟩ => ⟨he.trans (ret_u32 (rorN_at (by kernel_rfl) (by kernel_rfl))), hw⟩
  · exact (refror_11 v w h).mono fun e w' ⟨he, hw⟩ => ⟨he.trans (ret_u32 (rorN_at (by kernel_rfl) (by kernel_rfl))), hw⟩
  · exact (refror_13 v w h).mono fun e w' ⟨he, hw⟩ => ⟨he.trans (ret_u32 (rorN_at (by kernel_rfl) (by kernel_rfl))), hw⟩
  · exact (refror_17 v w h).mono fun e w' ⟨he, hw⟩ => ⟨he.trans (ret_u32 (rorN_at (by kernel_rfl) (by kernel_rfl))), hw⟩
  · exact (refror_18 v w h).mono fun e w' ⟨he, hw⟩ => ⟨he.trans (ret_u32 (rorN_at (by kernel_rfl) (by kernel_rfl))), hw⟩
  · exact (refror_19 v w h).mono fun e w' ⟨he, hw⟩ => ⟨he.trans (ret_u32 (rorN_at (by kernel_rfl) (by kernel_rfl))), hw⟩
  · exact (refror_22 v w h).mono fun e w' ⟨he, hw⟩ => ⟨he.trans (ret_u32 (rorN_at (by kernel_rfl) (by kernel_rfl))), hw⟩
  · exact (refror_25 v w h).mono fun e w' ⟨he, hw⟩ => ⟨he.trans (ret_u32 (rorN_at (by kernel_rfl) (by kernel_rfl))), hw⟩
end Go.Proofs.YtpliokkmiijieaaDoor
