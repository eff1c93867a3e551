/- What one call of ckpt's reader's take does. -/
import Derived.Test.YteokhkoaieibmaaCkBase
namespace Go.Proofs.Yteokhkoaieibmaa
open Go.RowKit
set_option linter.unusedVariables false
set_option maxRecDepth 4000

def noCk : ByteArray := ⟨#[99, 107, 112, 116, 58, 32, 116, 104, 101, 32, 98, 108, 111, 99, 107, 115, 32, 97, 114, 101, 32, 110, 111, 32, 99, 104, 101, 99, 107, 112, 111, 105, 110, 116]⟩
def noBk : ByteArray := ⟨#[99, 107, 112, 116, 58, 32, 116, 104, 101, 32, 115, 116, 97, 116, 101, 32, 104, 97, 115, 32, 110, 111, 32, 98, 108, 111, 99, 107, 115]⟩
def CTook (g : Nat) (a : Option Addr) (n c : Nat) (xs ws : List Int) (w : World) (e : Ending) (w' : World) : Prop :=
  (offL ws ≤ n ∧ ∃ A k C w2, e = .returned (.slice A k C) ∧ Below w.heap.size w w2 ∧ w' = w2.setCell ⟨g, 0, none⟩ (cleftV a n c (offL ws)) ∧ w2.ownsRow w.heap.size 24 1 (.slice A k C) k (kInts .u64 (valL xs ws))) ∨
  (n < offL ws ∧ e = diedE noCk ∧ Below w.heap.size w w')
set_option maxHeartbeats 1000000 in
theorem ctake_of (g : Nat) (a : Option Addr) (n c o : Nat) (xs : List Int) (b : Option Addr) (m d : Nat) (ws : List Int) (w : World) (ho : o = offL ws) (hg : w.cell? ⟨g, 0, none⟩ = some (.slice a n c)) (hz : w.frozen? ⟨g, 0, none⟩ = false) (hx : BIn w a n xs) (hnil : a = none → n = 0 ∧ c = 0) (hnc : n ≤ c) (hy : NIn .i64 w b m ws) (hn : n ≤ 100000) (hm : m ≤ 1000) :
    Calls Try.prog 71 #[.pointer (some ⟨g, 0, none⟩), .int .i64 (o : Nat), .slice b m d] w (CTook g a n c xs ws w) := by
  have hob : o ≤ 8000 := by have := offL_le ws; have := hy.1; omega
  have H : Hid (BIn w a n xs ∧ NIn .i64 w b m ws ∧ (a = none → n = 0 ∧ c = 0) ∧ n ≤ c ∧ w.cell? ⟨g, 0, none⟩ = some (.slice a n c) ∧ w.frozen? ⟨g, 0, none⟩ = false ∧ o = offL ws) := ⟨hx, hy, hnil, hnc, hg, hz, ho⟩
  clear hx hy hnil hnc hg hz ho
  obtain ⟨M, hM⟩ : ∃ M : Nat, M = min o n := ⟨_, rfl⟩
  have hM' : (if n < o then (n : Int) else o) = M := by rw [hM]; split <;> omega
  have hMc : M ≤ c := by have := H.out.2.2.2.1; omega
  have hsl := fun w => slice_front Try.underlying39 Try.one_bytes a n c M hMc w
  have hMn : M ≤ n := by omega
  have eX : xs.take M = xs.take (offL ws) := by
    rw [← H.out.2.2.2.2.2.2]
    by_cases h : o ≤ n
    · rw [hM, Nat.min_eq_left h]
    · rw [hM, Nat.min_eq_right (by omega), List.take_of_length_le (by rw [H.out.1.1]; exact Nat.le_refl _), List.take_of_length_le (by rw [H.out.1.1]; omega)]
  have HM : Hid (xs.take M = xs.take (offL ws) ∧ M ≤ n ∧ M ≤ c) := ⟨eX, hMn, hMc⟩
  clear hM eX hMc hMn
  have c0 := H.out.2.2.2.2.1
  have cT := take_of a M c (xs.take M) b m d ws w.drew ((H.out.1.n.front M HM.out.2.1).b) (fun e => by have := H.out.2.2.1 e; have := HM.out; omega) HM.out.2.2 H.out.2.1 (by have := HM.out; omega) (by omega)
  have ed : decide (offL ws ≤ (xs.take (offL ws)).length) = decide (o ≤ n) := decide_eq_decide.2 (by rw [cfront_enough, ← H.out.2.2.2.2.2.2, H.out.1.1])
  rw [HM.out.1, ctakeV_take, ed] at cT
  clear ed
  go_enter Try.func71, Try.ntmps71
  go_upto_region 1 with fail
  go_region_held3 (fun w' => w'.cell? ⟨g, 0, none⟩ = some (.slice a n c)) (first | exact c0 | exact c2)
    (first | (go_simp; go_at_call 84; refine cT.mono ?_; rintro e w2 ⟨A, k, C, R, r, D, rfl, ow, -, bl⟩; have bl' : Below w.heap.size w w2 := (Below.refl _ _).drew.trans bl; have c2 : w2.cell? ⟨g, 0, none⟩ = some (.slice a n c) := by (rw [bl'.cell (old_block c0)]; exact c0)))
  have f2 : w2.frozen? ⟨g, 0, none⟩ = false := by rw [bl'.frozen (old_block c0)]; exact H.out.2.2.2.2.2.1
  have HE : Hid (w2.ownsRow w.heap.size 24 1 (.slice A k C) k (kInts .u64 (takeV xs ws)) ∧ Below w.heap.size w w2) := ⟨ow, bl'⟩
  clear ow bl cT bl' c0 hM' hsl
  by_cases hen : o ≤ n
  · rw [decide_eq_true hen]
    have hen' : (o : Int) ≤ n := by omega
    obtain ⟨A', eA⟩ : ∃ A', .slice A' (n - o) (c - o) = cleftV a n c o := ⟨_, rfl⟩
    have hb := fun w => slice_back Try.underlying39 Try.one_bytes a n c o hen w
    have hb' : ∀ w : World, (Instr.slice 39 (.slice a n c) (some (.int .i64 (o : Int))) none none).run Try.prog w = .ok (.slice A' (n - o) (c - o)) w := fun w => by rw [hb w, eA]; rfl
    have HA : Hid (.slice A' (n - o) (c - o) = cleftV a n c o) := eA
    clear eA hb
    go_wp2
    go_ret
    refine .inl ⟨by rw [← H.out.2.2.2.2.2.2]; exact hen, A, k, C, w2, rfl, HE.out.2, by rw [← H.out.2.2.2.2.2.2, ← HA.out], ?_⟩
    have := HE.out.1
    rwa [show takeV xs ws = valL xs ws by unfold takeV; rw [if_pos (by rw [← H.out.2.2.2.2.2.2, H.out.1.1]; exact hen)]] at this
  · rw [decide_eq_false hen]
    go_wp2
    refine ⟨rfl, .inr ⟨by rw [← H.out.2.2.2.2.2.2]; omega, rfl, HE.out.2⟩⟩
end Go.Proofs.Yteokhkoaieibmaa
