/- What one call of greet's Hello, Reply, Blocks and exportFlags does, and of the document's. -/
import Derived.Test.YtkegpgmmlmineaaGZeros
namespace Go.Proofs.Ytkegpgmmlmineaa
open Go.RowKit
set_option linter.unusedVariables false
set_option maxRecDepth 4000

theorem nin_litU (t : TypeId) {w : World} {g n : Nat} {L : List Int} {C : Array Value} {fr : Nat × Nat} (hk : w.heap.size = g) (hC : C = (kInts .u64 L).toArray) (hn : L.length = n) (hf : ∀ z ∈ L, FitsU z) (hm : n ≤ 1000) :
    NIn .u64 (w.alloc (.cells C t fr)) (some ⟨g, 0, none⟩) n L := new_nin hk hC hn (fun z hz => wfU (hf z hz)) (by unfold maxLen; omega)
def helloL : List Int := packL [8, 8, 2] [5639144782019643715, 5280542401877725268, 3]
def replyL (a b : Int) (D : List Int) : List Int := packL [8, 4, 4, 4] [1100100111001001, a, b, (D.length : Nat)] ++ D
def blocksL (v : Int) : List Int := packL [2, 4, 4, 4] [3, 1, v, 65536]
def flI (ro : Bool) : Int := if ro then 111 else 109
def infoL (S : Int) (ro : Bool) : List Int := packL [2, 8, 2] [0, S, flI ro]
def oldH (S : Int) (ro : Bool) : List Int := packL [8, 2] [S, flI ro]
def oldL (S : Int) (ro no : Bool) : List Int := oldH S ro ++ (if no then [] else List.replicate 124 0)
theorem below_lits {w w1 : World} {o p : Obj} (h : Below ((w.alloc o).alloc p).heap.size ((w.alloc o).alloc p) w1) : Below w.heap.size w w1 := (below_two rfl h).1
theorem fits3 {a b c : Int} (ha : FitsU a) (hb : FitsU b) (hc : FitsU c) : ∀ z ∈ [a, b, c], FitsU z := by
  intro z hz
  simp only [List.mem_cons, List.not_mem_nil, or_false] at hz
  rcases hz with rfl | rfl | rfl <;> assumption
theorem fits4 {a b c d : Int} (ha : FitsU a) (hb : FitsU b) (hc : FitsU c) (hd : FitsU d) : ∀ z ∈ [a, b, c, d], FitsU z := by
  intro z hz
  simp only [List.mem_cons, List.not_mem_nil, or_false] at hz
  rcases hz with rfl | rfl | rfl | rfl <;> assumption
theorem fits2 {a b : Int} (ha : FitsU a) (hb : FitsU b) : ∀ z ∈ [a, b], FitsU z := by
  intro z hz
  simp only [List.mem_cons, List.not_mem_nil, or_false] at hz
  rcases hz with rfl | rfl <;> assumption
theorem pack_small (ws vs : List Int) (h : ws.length ≤ 4) : (packL ws vs).length ≤ 32 := by have := pack_len ws vs; omega

theorem hello_of (w : World) : Calls Try.prog 18 #[] w fun e w' => ∃ a k c, e = .returned (.slice a k c) ∧ BIn w' a k helloL ∧ Below w.heap.size w w' := by
  go_enter Try.func18, Try.ntmps18
  go_wp2_with fail
  refine (pack_of (some ⟨w.heap.size, 0, none⟩) 3 3 [8, 8, 2] (some ⟨w.heap.size + 1, 0, none⟩) 3 3 [5639144782019643715, 5280542401877725268, 3] _ ((nin_lit 3 rfl rfl rfl rfl (by decide)).alloc _) (nin_litU 45 (by simp) rfl rfl (fits3 (by unfold FitsU; omega) (by unfold FitsU; omega) (by unfold FitsU; omega)) (by omega)) (by omega) (by omega)).mono ?_
  rintro e w1 ⟨a1, k1, c1, rfl, hk1, ow1, b1⟩
  have B1 : Hid (BIn w1 a1 k1 helloL ∧ Below w.heap.size w w1) := ⟨own_bin ow1 (by rw [hk1]; have := pack_small [8, 8, 2] [5639144782019643715, 5280542401877725268, 3] (by decide); unfold maxLen; omega) (packL_fits _ _), below_lits b1⟩
  clear ow1 b1 hk1
  go_wp2
  go_ret
  exact ⟨a1, k1, c1, rfl, B1.out.1, B1.out.2⟩

theorem refHello_of (w : World) : Calls Try.prog 19 #[] w fun e w' => ∃ a k c, e = .returned (.slice a k c) ∧ BIn w' a k helloL ∧ Below w.heap.size w w' := by
  go_enter Try.func19, Try.ntmps19
  go_wp2_with fail
  refine (refPack_of (some ⟨w.heap.size, 0, none⟩) 3 3 [8, 8, 2] (some ⟨w.heap.size + 1, 0, none⟩) 3 3 [5639144782019643715, 5280542401877725268, 3] _ ((nin_lit 3 rfl rfl rfl rfl (by decide)).alloc _) (nin_litU 45 (by simp) rfl rfl (fits3 (by unfold FitsU; omega) (by unfold FitsU; omega) (by unfold FitsU; omega)) (by omega)) (by omega) (by omega)).mono ?_
  rintro e w1 ⟨a1, k1, c1, rfl, hk1, ow1, b1⟩
  have B1 : Hid (BIn w1 a1 k1 helloL ∧ Below w.heap.size w w1) := ⟨own_bin ow1 (by rw [hk1]; have := pack_small [8, 8, 2] [5639144782019643715, 5280542401877725268, 3] (by decide); unfold maxLen; omega) (packL_fits _ _), below_lits b1⟩
  clear ow1 b1 hk1
  go_wp2
  go_ret
  exact ⟨a1, k1, c1, rfl, B1.out.1, B1.out.2⟩

theorem blocks_of (b : Int) (w : World) : Calls Try.prog 24 #[.int .i64 b] w fun e w' => ∃ a k c, e = .returned (.slice a k c) ∧ BIn w' a k (blocksL (IntKind.u64.wrap b)) ∧ Below w.heap.size w w' := by
  obtain ⟨V, hV⟩ : ∃ V, IntKind.u64.wrap b = V := ⟨_, rfl⟩
  have hf : FitsU V := by rw [← hV, IntKind.wrap_u64]; unfold FitsU; omega
  have HF : Hid (FitsU V) := hf
  rw [hV]
  clear hf
  go_enter Try.func24, Try.ntmps24
  go_wp2_with fail
  refine (pack_of (some ⟨w.heap.size, 0, none⟩) 4 4 [2, 4, 4, 4] (some ⟨w.heap.size + 1, 0, none⟩) 4 4 [3, 1, V, 65536] _ ((nin_lit 3 rfl rfl rfl rfl (by decide)).alloc _) (nin_litU 45 (by simp) rfl rfl (fits4 (by unfold FitsU; omega) (by unfold FitsU; omega) HF.out (by unfold FitsU; omega)) (by omega)) (by omega) (by omega)).mono ?_
  rintro e w1 ⟨a1, k1, c1, rfl, hk1, ow1, b1⟩
  have B1 : Hid (BIn w1 a1 k1 (blocksL V) ∧ Below w.heap.size w w1) := ⟨own_bin ow1 (by rw [hk1]; have := pack_small [2, 4, 4, 4] [3, 1, V, 65536] (by simp); unfold maxLen; omega) (packL_fits _ _), below_lits b1⟩
  clear ow1 b1 hk1 hV
  go_wp2
  go_ret
  exact ⟨a1, k1, c1, rfl, B1.out.1, B1.out.2⟩

theorem refBlocks_of (b : Int) (w : World) : Calls Try.prog 25 #[.int .i64 b] w fun e w' => ∃ a k c, e = .returned (.slice a k c) ∧ BIn w' a k (blocksL (IntKind.u64.wrap b)) ∧ Below w.heap.size w w' := by
  obtain ⟨V, hV⟩ : ∃ V, IntKind.u64.wrap b = V := ⟨_, rfl⟩
  have hf : FitsU V := by rw [← hV, IntKind.wrap_u64]; unfold FitsU; omega
  have HF : Hid (FitsU V) := hf
  rw [hV]
  clear hf
  go_enter Try.func25, Try.ntmps25
  go_wp2_with fail
  refine (refPack_of (some ⟨w.heap.size, 0, none⟩) 4 4 [2, 4, 4, 4] (some ⟨w.heap.size + 1, 0, none⟩) 4 4 [3, 1, V, 65536] _ ((nin_lit 3 rfl rfl rfl rfl (by decide)).alloc _) (nin_litU 45 (by simp) rfl rfl (fits4 (by unfold FitsU; omega) (by unfold FitsU; omega) HF.out (by unfold FitsU; omega)) (by omega)) (by omega) (by omega)).mono ?_
  rintro e w1 ⟨a1, k1, c1, rfl, hk1, ow1, b1⟩
  have B1 : Hid (BIn w1 a1 k1 (blocksL V) ∧ Below w.heap.size w w1) := ⟨own_bin ow1 (by rw [hk1]; have := pack_small [2, 4, 4, 4] [3, 1, V, 65536] (by simp); unfold maxLen; omega) (packL_fits _ _), below_lits b1⟩
  clear ow1 b1 hk1 hV
  go_wp2
  go_ret
  exact ⟨a1, k1, c1, rfl, B1.out.1, B1.out.2⟩

set_option maxHeartbeats 1000000 in
theorem reply_of (x y : Int) (a : Option Addr) (n c : Nat) (D : List Int) (w : World) (hD : BIn w a n D) (hnil : a = none → n = 0 ∧ c = 0) (hn : n ≤ 100000) (x0 : 0 ≤ x) (x1 : x ≤ 4294967295) (y0 : 0 ≤ y) (y1 : y ≤ 4294967295) :
    Calls Try.prog 20 #[.int .u32 x, .int .u32 y, .slice a n c] w fun e w' => ∃ A k C, e = .returned (.slice A k C) ∧ BIn w' A k (replyL x y D) ∧ Below w.heap.size w w' := by
  have H : Hid (BIn w a n D ∧ (a = none → n = 0 ∧ c = 0)) := ⟨hD, hnil⟩
  clear hD hnil
  have HF : Hid (FitsU x ∧ FitsU y ∧ FitsU (n : Int)) := ⟨by unfold FitsU; omega, by unfold FitsU; omega, by unfold FitsU; omega⟩
  go_enter Try.func20, Try.ntmps20
  go_wp2_with fail
  refine (pack_of (some ⟨w.heap.size, 0, none⟩) 4 4 [8, 4, 4, 4] (some ⟨w.heap.size + 1, 0, none⟩) 4 4 [1100100111001001, x, y, (n : Int)] _ ((nin_lit 3 rfl rfl rfl rfl (by decide)).alloc _) (nin_litU 45 (by simp) rfl rfl (fits4 (by unfold FitsU; omega) HF.out.1 HF.out.2.1 HF.out.2.2) (by omega)) (by omega) (by omega)).mono ?_
  obtain ⟨P, hP⟩ : ∃ P, P = packL [8, 4, 4, 4] [1100100111001001, x, y, (n : Int)] := ⟨_, rfl⟩
  have hPl := pack_small [8, 4, 4, 4] [1100100111001001, x, y, (n : Int)] (by simp)
  have hPf := packL_fits [8, 4, 4, 4] [1100100111001001, x, y, (n : Int)]
  rw [← hP] at hPl hPf ⊢
  rintro e w1 ⟨a1, k1, c1, rfl, hk1, ow1, b1⟩
  have hk : k1 ≤ 32 := by omega
  have B1 : Hid (w1.ownsRow w.heap.size 5 1 (.slice a1 k1 c1) k1 (u8s P) ∧ Below w.heap.size w w1 ∧ BIn w1 a n D ∧ (∀ z ∈ P, Fits8 z) ∧ P = packL [8, 4, 4, 4] [1100100111001001, x, y, (n : Int)]) := ⟨own_lowerN ow1 (by simp; omega), below_lits b1, H.out.1.below (below_lits b1), hPf, hP⟩
  clear ow1 b1 hk1 hP hPl hPf
  go_wp2_with (at_builtin; refine wpList_append_bin rfl (.tmp 18) (.tmp 19) rfl w.heap.size a1 k1 c1 P rfl B1.out.1 a n c D rfl B1.out.2.2.1 H.out.2 (by omega) B1.out.2.1.size ?_; intro A C w2 ow2 b2)
  go_ret
  refine ⟨A, k1 + n, C, rfl, ?_, B1.out.2.1.trans b2⟩
  unfold replyL
  rw [H.out.1.1, ← B1.out.2.2.2.2]
  refine own_bin ow2 (by unfold maxLen; omega) ?_
  intro z hz
  rcases List.mem_append.1 hz with hz | hz
  · exact B1.out.2.2.2.1 z hz
  · exact H.out.1.2.2.1 z hz

set_option maxHeartbeats 1000000 in
theorem refReply_of (x y : Int) (a : Option Addr) (n c : Nat) (D : List Int) (w : World) (hD : BIn w a n D) (hnil : a = none → n = 0 ∧ c = 0) (hn : n ≤ 100000) (x0 : 0 ≤ x) (x1 : x ≤ 4294967295) (y0 : 0 ≤ y) (y1 : y ≤ 4294967295) :
    Calls Try.prog 21 #[.int .u32 x, .int .u32 y, .slice a n c] w fun e w' => ∃ A k C, e = .returned (.slice A k C) ∧ BIn w' A k (replyL x y D) ∧ Below w.heap.size w w' := by
  have H : Hid (BIn w a n D ∧ (a = none → n = 0 ∧ c = 0)) := ⟨hD, hnil⟩
  clear hD hnil
  have HF : Hid (FitsU x ∧ FitsU y ∧ FitsU (n : Int)) := ⟨by unfold FitsU; omega, by unfold FitsU; omega, by unfold FitsU; omega⟩
  go_enter Try.func21, Try.ntmps21
  go_wp2_with fail
  refine (refPack_of (some ⟨w.heap.size, 0, none⟩) 4 4 [8, 4, 4, 4] (some ⟨w.heap.size + 1, 0, none⟩) 4 4 [1100100111001001, x, y, (n : Int)] _ ((nin_lit 3 rfl rfl rfl rfl (by decide)).alloc _) (nin_litU 45 (by simp) rfl rfl (fits4 (by unfold FitsU; omega) HF.out.1 HF.out.2.1 HF.out.2.2) (by omega)) (by omega) (by omega)).mono ?_
  obtain ⟨P, hP⟩ : ∃ P, P = packL [8, 4, 4, 4] [1100100111001001, x, y, (n : Int)] := ⟨_, rfl⟩
  have hPl := pack_small [8, 4, 4, 4] [1100100111001001, x, y, (n : Int)] (by simp)
  have hPf := packL_fits [8, 4, 4, 4] [1100100111001001, x, y, (n : Int)]
  rw [← hP] at hPl hPf ⊢
  rintro e w1 ⟨a1, k1, c1, rfl, hk1, ow1, b1⟩
  have hk : k1 ≤ 32 := by omega
  have B1 : Hid (w1.ownsRow w.heap.size 5 1 (.slice a1 k1 c1) k1 (u8s P) ∧ Below w.heap.size w w1 ∧ BIn w1 a n D ∧ (∀ z ∈ P, Fits8 z) ∧ P = packL [8, 4, 4, 4] [1100100111001001, x, y, (n : Int)]) := ⟨own_lowerN ow1 (by simp; omega), below_lits b1, H.out.1.below (below_lits b1), hPf, hP⟩
  clear ow1 b1 hk1 hP hPl hPf
  go_wp2_with (at_builtin; refine wpList_append_bin rfl (.tmp 18) (.tmp 19) rfl w.heap.size a1 k1 c1 P rfl B1.out.1 a n c D rfl B1.out.2.2.1 H.out.2 (by omega) B1.out.2.1.size ?_; intro A C w2 ow2 b2)
  go_ret
  refine ⟨A, k1 + n, C, rfl, ?_, B1.out.2.1.trans b2⟩
  unfold replyL
  rw [H.out.1.1, ← B1.out.2.2.2.2]
  refine own_bin ow2 (by unfold maxLen; omega) ?_
  intro z hz
  rcases List.mem_append.1 hz with hz | hz
  · exact B1.out.2.2.2.1 z hz
  · exact H.out.1.2.2.1 z hz

theorem exportFlags_of (T S : Int) (ro : Bool) (w : World) : Calls Try.prog 34 #[.agg #[.int .u32 T, .int .u64 S, .bool ro]] w fun e w' => e = .returned (.int .u64 (flI ro)) ∧ Below w.heap.size w w' := by
  have bw : Below w.heap.size w (w.alloc (.cells #[.int .u32 T, .int .u64 S, .bool ro] 47)) := (Below.refl _ _).alloc (Nat.le_refl _) _
  have HB : Hid (Below w.heap.size w (w.alloc (.cells #[.int .u32 T, .int .u64 S, .bool ro] 47))) := bw
  clear bw
  cases ro
  · go_enter Try.func34, Try.ntmps34
    go_wp2
    go_ret
    exact ⟨rfl, HB.out⟩
  · go_enter Try.func34, Try.ntmps34
    go_wp2
    go_ret
    exact ⟨rfl, HB.out⟩

theorem refLflags_of (T S : Int) (ro : Bool) (w : World) : Calls Try.prog 35 #[.agg #[.int .u32 T, .int .u64 S, .bool ro]] w fun e w' => e = .returned (.int .u64 (flI ro)) ∧ Below w.heap.size w w' := by
  have bw : Below w.heap.size w (w.alloc (.cells #[.int .u32 T, .int .u64 S, .bool ro] 47)) := (Below.refl _ _).alloc (Nat.le_refl _) _
  have HB : Hid (Below w.heap.size w (w.alloc (.cells #[.int .u32 T, .int .u64 S, .bool ro] 47))) := bw
  clear bw
  cases ro
  · go_enter Try.func35, Try.ntmps35
    go_wp2
    go_ret
    exact ⟨rfl, HB.out⟩
  · go_enter Try.func35, Try.ntmps35
    go_wp2
    go_ret
    exact ⟨rfl, HB.out⟩
end Go.Proofs.Ytkegpgmmlmineaa
