/- What one call of within, torn, whole, kept, cut and of the functions that whole and kept tell does. -/
import Derived.Test.YteokhkoaieibmaaZMem
import Derived.Deep.OwnRows
namespace Go.Proofs.Yteokhkoaieibmaa
open Go.RowKit
set_option linter.unusedVariables false
set_option maxRecDepth 4000

theorem slice_front {t : TypeId} (ht : Try.prog.underlying t = some (.slice (Try.prog.elem t))) (hz : ∀ w : World, (sizeOf (Try.prog.elem t)).run Try.prog w = .ok 1 w) (a : Option Addr) (n c k : Nat) (hk : k ≤ c) (w : World) :
    (Instr.slice t (.slice a n c) none (some (.int .i64 (k : Int))) none).run Try.prog w = .ok (.slice a k c) w := by
  rw [run_slice_h (P := Try.prog) w t a n c ht .i64 k (by omega) (by omega), hz w]
  simp only [Result.andThen, Int.toNat_natCast]
  unfold sliced
  cases a with
  | none => simp
  | some x => simp [Addr.add]
theorem slice_back {t : TypeId} (ht : Try.prog.underlying t = some (.slice (Try.prog.elem t))) (hz : ∀ w : World, (sizeOf (Try.prog.elem t)).run Try.prog w = .ok 1 w) (a : Option Addr) (n c k : Nat) (hk : k ≤ n) (w : World) :
    (Instr.slice t (.slice a n c) (some (.int .i64 (k : Int))) none none).run Try.prog w = .ok (.slice (if c = k then a else a.map (·.add k)) (n - k) (c - k)) w := by
  rw [run_slice_l (P := Try.prog) w t a n c ht .i64 k (by omega) (by omega), hz w]
  simp only [Result.andThen, Int.toNat_natCast]
  unfold sliced
  rw [Nat.mul_one]
theorem Try.one_bytes : ∀ w : World, (sizeOf (Try.prog.elem 39)).run Try.prog w = .ok 1 w := fun _ => by kernel_rfl
theorem Try.one_blocks : ∀ w : World, (sizeOf (Try.prog.elem 28)).run Try.prog w = .ok 1 w := fun _ => by kernel_rfl
theorem Try.byte1 : (Try.prog.info? 5).map (·.size) = some 1 := by kernel_rfl

theorem within_of (n lo hi : Int) (w : World) :
    Calls Try.prog 62 #[.int .i64 n, .int .i64 lo, .int .i64 hi] w fun e w' => e = .returned (.bool (decide (lo ≤ n) && decide (n ≤ hi))) ∧ w' = w := by
  by_cases h1 : lo ≤ n
  · have e : (decide (lo ≤ n) && decide (n ≤ hi)) = decide (n ≤ hi) := by simp [h1]
    rw [e]
    go_enter Try.func62, Try.ntmps62
    go_wp2
    go_ret
    exact ⟨by simp, rfl⟩
  · have e : (decide (lo ≤ n) && decide (n ≤ hi)) = false := by simp [h1]
    rw [e]
    go_enter Try.func62, Try.ntmps62
    go_wp2
    go_ret
    exact ⟨rfl, rfl⟩

/-- A block's first m bytes, and noughts. -/
def tornL (D : List Int) (m : Nat) : List Int := D.take m ++ List.replicate (D.length - m) 0
theorem tornL_length {D : List Int} {m : Nat} (h : m ≤ D.length) : (tornL D m).length = D.length := by simp [tornL]; omega
theorem tornL_all (D : List Int) : tornL D D.length = D := by simp [tornL]
theorem tornL_fits {D : List Int} {m : Nat} (h : ∀ z ∈ D, Fits8 z) : ∀ z ∈ tornL D m, Fits8 z := by
  intro z hz
  simp only [tornL, List.mem_append, List.mem_replicate] at hz
  rcases hz with hz | ⟨_, rfl⟩
  · exact h z (List.mem_of_mem_take hz)
  · unfold Fits8; omega
theorem made_bytes (n : Nat) (w : World) : Blk (w.alloc (.cells (madeCells #[.int .u8 0] n) 5)) w.heap.size (u8s (List.replicate n 0)) 5 := by
  refine Blk.new' rfl ?_
  apply Array.ext'
  rw [toList_madeCells_one]
  simp [u8s]
theorem blk_own {w : World} {g n : Nat} {L : List Value} {t : TypeId} (B : Nat) (h : Blk w g L t) (hn : L.length = n) (hm : n ≤ maxLen) (hB : B ≤ g) : w.ownsRow B t 1 (.slice (some ⟨g, 0, none⟩) n n) n L :=
  ⟨by omega, .inr ⟨g, n, L.toArray, rfl, hB, h, Nat.le_refl _, hm, by simp [hn], by simp [← hn]⟩⟩

def Torn (w : World) (D : List Int) (m : Nat) (e : Ending) (w' : World) : Prop :=
  ∃ h, e = .returned h ∧ BkAt (fun k => w.heap.size ≤ k) w' h (tornL D m) ∧ Below w.heap.size w w' ∧ (∃ g, h = .slice (some ⟨g, 0, none⟩) D.length D.length ∧ w.heap.size ≤ g)

set_option maxHeartbeats 1000000 in
theorem torn_of (a : Option Addr) (n c m : Nat) (D : List Int) (w : World) (hb : BIn w a n D) (hm : m ≤ n) (hc : n ≤ c) (hn : n ≤ 100000) :
    Calls Try.prog 86 #[.slice a n c, .int .i64 m] w (Torn w D m) := by
  obtain ⟨q, hq⟩ : ∃ q, q = w.heap.size := ⟨_, rfl⟩
  have hmk := run_make_row' (P := Try.prog) 39 5 (.int .u8 0) 1 Try.underlying39 Try.zero_u8 rfl .i64 .i64 n (by omega) (by omega)
  have hsf := slice_front Try.underlying39 Try.one_bytes a n c m (by omega)
  have b0 := made_bytes n w
  rw [← hq] at b0
  have H : Hid (BIn w a n D ∧ m ≤ n ∧ n ≤ 100000 ∧ q = w.heap.size) := ⟨hb, hm, hn, hq⟩
  have H0 : Hid (Blk (w.alloc (.cells (madeCells #[.int .u8 0] n) 5)) q (u8s (List.replicate n 0)) 5 ∧ Below q w (w.alloc (.cells (madeCells #[.int .u8 0] n) 5))) := ⟨b0, (Below.refl _ _).alloc (by rw [hq]; exact Nat.le_refl _) _⟩
  clear hb hm hn hc b0
  go_enter Try.func86, Try.ntmps86
  go_upto_region 2 with fail
  generalize hW : World.alloc w _ = W at H0 ⊢
  rw [← hq]
  clear hW hmk hq
  have hlen : D.length = n := H.out.1.1
  have hin : BIn W a n D := H.out.1.below (by rw [← H.out.2.2.2]; exact H0.out.2)
  have HI : Hid (BIn W a n D ∧ D.length = n) := ⟨hin, hlen⟩
  clear hin hlen
  have s1 : Hid ((u8s (D.take m)).length = Nat.min m n) := show _ = _ by
    rw [u8s_length, List.length_take, HI.out.2]
  have s2 : Hid (0 < (u8s (D.take m)).length → (some ⟨q, 0, none⟩ : Option Addr) = some ⟨q, 0, none⟩ ∧ ∃ ad, a = some ad ∧ ∀ j v, (u8s (D.take m))[j]? = some v → W.cell? (ad.add j) = some v) := fun hp => ⟨rfl, by
    rw [u8s_length, List.length_take, HI.out.2] at hp
    obtain ⟨b, off, ha, hc⟩ := HI.out.1.2.2.2.resolve_left (by omega)
    refine ⟨_, ha, fun j v hj => ?_⟩
    have hj' : j < m ∧ j < n := by
      have := (List.getElem?_eq_some_iff.1 hj).1
      rw [u8s_length, List.length_take, HI.out.2] at this
      omega
    rw [Addr.add_mid, hc j hj'.2, ← hj]
    simp [u8s, List.getD, hj'.1, HI.out.2, hj'.2]⟩
  have s3 : Hid (0 + (u8s (D.take m)).length ≤ (u8s (List.replicate n 0)).length) := show _ ≤ _ by rw [u8s_length, u8s_length, List.length_take, HI.out.2, List.length_replicate]; omega
  go_upto_region 3 with (refine wpList_copy_splice rfl (.tmp 9) (.tmp 12) 39 39 rfl 5 Try.underlying39 Try.byte1 (some ⟨q, 0, none⟩) a n n m c rfl rfl q 0 (u8s (List.replicate n 0)) 5 H0.out.1 (u8s (D.take m)) s1.out s2.out s3.out (u8s_one _) q W (Below.refl _ _) (Nat.le_refl _) ?_; intro w4 h4 b4)
  have e4 : splice (u8s (List.replicate n 0)) 0 (u8s (D.take m)) = u8s (tornL D m) := by
    have h1 : (u8s (D.take m)).length = m := by rw [u8s_length, List.length_take, HI.out.2]; have := H.out.2.1; omega
    unfold splice
    rw [h1]
    simp [u8s, tornL, HI.out.2]
  have f4 : Blk w4 q (u8s (tornL D m)) 5 := by
    have := h4.out
    rw [e4] at this
    exact this
  have HF : Hid (Blk w4 q (u8s (tornL D m)) 5 ∧ Below q w w4) := ⟨f4, H0.out.2.trans b4⟩
  clear h4 b4 e4 f4
  go_wp2
  go_ret
  have hl := tornL_length (D := D) (m := m) (by rw [HI.out.2]; exact H.out.2.1)
  refine ⟨_, rfl, ⟨?_, ?_, tornL_fits H.out.1.2.2.1, by rw [hl, HI.out.2]; have := H.out.2.2.1; omega⟩, by rw [← H.out.2.2.2]; exact HF.out.2, q, (by rw [HI.out.2]; rfl), by rw [H.out.2.2.2]; exact Nat.le_refl _⟩
  · rw [hl, HI.out.2]
    exact blk_own 0 HF.out.1 (by rw [u8s_length, hl, HI.out.2]) (by have := H.out.2.2.1; unfold maxLen; omega) (Nat.zero_le _)
  · intro k hk
    cases hk
    rw [H.out.2.2.2]; exact Nat.le_refl _

/-- The functions that whole and kept tell; whole, kept and cut themselves. -/
theorem whole1_of (s : Int) (g : Nat) (a : Option Addr) (n c : Nat) (w : World) (hc : w.cell? ⟨g, 0, none⟩ = some (.int .i64 s)) :
    Calls Try.prog 87 #[.slice a n c, .pointer (some ⟨g, 0, none⟩)] w fun e w' => e = .returned (.int .i64 (if (n : Int) = s then s else 0)) ∧ w' = w := by
  by_cases h : (n : Int) = s
  · rw [if_pos h]
    subst h
    go_enter Try.func87, Try.ntmps87
    go_wp2
    go_ret
    exact ⟨rfl, rfl⟩
  · rw [if_neg h]
    have hb : ((n : Int) != s) = true := by simp [h]
    go_enter Try.func87, Try.ntmps87
    go_wp2
    go_ret
    exact ⟨rfl, rfl⟩
theorem whole_of (s : Int) (w : World) :
    Calls Try.prog 78 #[.int .i64 s] w fun e w' => e = .returned (.func (.func 87) #[] #[.pointer (some ⟨w.heap.size, 0, none⟩)]) ∧ w' = w.alloc (.cells #[.int .i64 s] 3) := by
  go_enter Try.func78, Try.ntmps78
  go_wp2
  go_ret
  exact ⟨rfl, rfl⟩
theorem kept_of (k t : Int) (w : World) :
    Calls Try.prog 79 #[.agg #[.int .i64 k, .int .i64 t]] w fun e w' => e = .returned (.func (.func 88) #[] #[.pointer (some ⟨w.heap.size, 0, none⟩)]) ∧ w' = w.alloc (.cells #[.int .i64 k, .int .i64 t] 112) := by
  go_enter Try.func79, Try.ntmps79
  go_wp2
  go_ret
  exact ⟨rfl, rfl⟩
theorem cut_of (a : Option Addr) (n c f : Nat) (lb : Array Value) (w : World) :
    Calls Try.prog 77 #[.slice a n c, .func (.func f) #[] lb] w fun e w' => e = .returned (.func (.func 85) #[] #[.pointer (some ⟨w.heap.size, 0, none⟩), .pointer (some ⟨w.heap.size + 1, 0, none⟩)]) ∧ w' = (w.alloc (.cells #[.slice a n c] 28)).alloc (.cells #[.func (.func f) #[] lb] 134) := by
  go_enter Try.func77, Try.ntmps77
  go_wp2
  go_ret
  exact ⟨by simp, rfl⟩
end Go.Proofs.Yteokhkoaieibmaa
