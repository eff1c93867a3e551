/- What one call of req's reader does: numbers, data; the widths. -/
import Derived.Test.YtlfmdplaoalahaaRMath
import Derived.Laws.ResultCell
namespace Go.Proofs.Ytlfmdplaoalahaa
open Go.RowKit
set_option linter.unusedVariables false
set_option maxRecDepth 4000

def tooEarly : ByteArray := ⟨#[114, 101, 113, 58, 32, 116, 104, 101, 32, 98, 121, 116, 101, 115, 32, 101, 110, 100, 32, 116, 111, 111, 32, 101, 97, 114, 108, 121]⟩
theorem own_at {w : World} {base k C : Nat} {A : Option Addr} {L : List Int} (h : w.ownsRow base 25 1 (.slice A k C) k (kInts .u64 L)) (h0 : L ≠ []) : ∃ g, A = some ⟨g, 0, none⟩ ∧ k = L.length ∧ base ≤ g ∧ k ≤ C ∧ ∀ i, i < L.length → w.cell? ⟨g, i, none⟩ = some (.int .u64 (L.getD i 0)) := by
  have hl : L.length = k := by have := h.1; simp [kInts] at this; omega
  have hp : 0 < L.length := List.length_pos_iff.2 h0
  rcases h.2 with ⟨hv, hn⟩ | ⟨g, cap, cur, hv, hb, hg, hc, hcm, hsz, htake⟩
  · omega
  · cases hv
    refine ⟨g, rfl, hl.symm, hb, hc, fun i hi => ?_⟩
    have hcl := h.cells (g := g) rfl i (.int .u64 (L.getD i 0)) (by simp [kInts, List.getD, hi])
    rw [Addr.add_mid, Nat.zero_add] at hcl
    exact hcl
theorem nin_lit (t : TypeId) {w : World} {g n : Nat} {L : List Int} {C : Array Value} {fr : Nat × Nat} (hk : w.heap.size = g) (hC : C = (kInts .i64 L).toArray) (hn : L.length = n) (hf : (L.all fun z => (Lit.int .i64 z).wf) = true) (hm : n ≤ 1000) :
    NIn .i64 (w.alloc (.cells C t fr)) (some ⟨g, 0, none⟩) n L := new_nin hk hC hn (all_wf hf) (by unfold maxLen; omega)
theorem nin_litU (t : TypeId) {w : World} {g n : Nat} {L : List Int} {C : Array Value} {fr : Nat × Nat} (hk : w.heap.size = g) (hC : C = (kInts .u64 L).toArray) (hn : L.length = n) (hf : ∀ z ∈ L, FitsU z) (hm : n ≤ 1000) :
    NIn .u64 (w.alloc (.cells C t fr)) (some ⟨g, 0, none⟩) n L := new_nin hk hC hn (fun z hz => wfU (hf z hz)) (by unfold maxLen; omega)
theorem below_new {w w1 : World} {o : Obj} (h : Below (w.alloc o).heap.size (w.alloc o) w1) : Below w.heap.size w w1 :=
  ((Below.refl _ _).alloc (Nat.le_refl _) o).trans (h.mono (by simp))
theorem below_two {w w1 : World} {q : Nat} {o p : Obj} (hq : q = w.heap.size) (h : Below ((w.alloc o).alloc p).heap.size ((w.alloc o).alloc p) w1) : Below q w w1 ∧ Below (q + 1) (w.alloc o) w1 := by
  subst hq
  refine ⟨(((Below.refl _ _).alloc (Nat.le_refl _) o).alloc (by simp) p).trans (h.mono (by simp; omega)), ((Below.refl _ _).alloc (by simp) p).trans (h.mono (by simp))⟩
theorem below_via {q : Nat} {a w w' : World} (h : Below q a w) (ha : q ≤ a.heap.size) (h' : Below w.heap.size w w') : Below q a w' := h.trans (h'.mono (Nat.le_trans ha h.size))
theorem own_setCells {t : TypeId} {base g : Nat} {v : Value} {n : Nat} {zs : List Value} (hg : g < base) : ∀ (vs : List Value) (o : Nat) (w : World), w.ownsRow base t 1 v n zs → (w.setCells g o vs).ownsRow base t 1 v n zs
  | [], _, _, h => h
  | x :: vs, o, w, h => own_setCells hg vs (o + 1) _ (ownsRow_setCell_below h (by show g < base; exact hg) x)
theorem back_nil {a : Option Addr} {n c i : Nat} (hi : i ≤ n) (hn : a = none → n = 0 ∧ c = 0) : (if c = i then a else a.map (·.add i)) = none → n - i = 0 ∧ c - i = 0 := by
  intro e
  have : a = none := by
    split at e
    · exact e
    · cases a with
      | none => rfl
      | some x => cases e
  have := hn this
  omega
theorem reqWidths_of (w : World) : Calls Try.prog 25 #[] w fun e w' => e = .returned (.slice (some ⟨w.heap.size, 0, none⟩) 6 6) ∧ w' = w.alloc (.cells #[.int .i64 4, .int .i64 2, .int .i64 2, .int .i64 8, .int .i64 8, .int .i64 4] 3) := by
  go_enter Try.func25, Try.ntmps25
  go_wp2
  go_ret
  exact ⟨rfl, rfl⟩
theorem repWidths_of (w : World) : Calls Try.prog 32 #[] w fun e w' => e = .returned (.slice (some ⟨w.heap.size, 0, none⟩) 3 3) ∧ w' = w.alloc (.cells #[.int .i64 4, .int .i64 4, .int .i64 8] 3) := by
  go_enter Try.func32, Try.ntmps32
  go_wp2
  go_ret
  exact ⟨rfl, rfl⟩
theorem nin_rq {w : World} {g : Nat} (h : w.heap.size = g) : NIn .i64 (w.alloc (.cells #[.int .i64 4, .int .i64 2, .int .i64 2, .int .i64 8, .int .i64 8, .int .i64 4] 3)) (some ⟨g, 0, none⟩) 6 rqW := nin_lit 3 h rfl rfl rfl (by omega)
theorem nin_rp {w : World} {g : Nat} (h : w.heap.size = g) : NIn .i64 (w.alloc (.cells #[.int .i64 4, .int .i64 4, .int .i64 8] 3)) (some ⟨g, 0, none⟩) 3 rpW := nin_lit 3 h rfl rfl rfl (by omega)

/-- What is left behind i bytes, as slicing leaves it. -/
def leftV (a : Option Addr) (n c i : Nat) : Value := .slice (if c = i then a else a.map (·.add i)) (n - i) (c - i)
/-- Slicing by a number that has no sign. -/
theorem slice_frontU {t : TypeId} (ht : Try.prog.underlying t = some (.slice (Try.prog.elem t))) (hz : ∀ w : World, (sizeOf (Try.prog.elem t)).run Try.prog w = .ok 1 w) (kd : IntKind) (a : Option Addr) (n c k : Nat) (hk : k ≤ c) (w : World) :
    (Instr.slice t (.slice a n c) none (some (.int kd (k : Int))) none).run Try.prog w = .ok (.slice a k c) w := by
  rw [run_slice_h (P := Try.prog) w t a n c ht kd k (by omega) (by omega), hz w]
  simp only [Result.andThen, Int.toNat_natCast]
  unfold sliced
  cases a with
  | none => simp
  | some x => simp [Addr.add]
theorem slice_backU {t : TypeId} (ht : Try.prog.underlying t = some (.slice (Try.prog.elem t))) (hz : ∀ w : World, (sizeOf (Try.prog.elem t)).run Try.prog w = .ok 1 w) (kd : IntKind) (a : Option Addr) (n c k : Nat) (hk : k ≤ n) (w : World) :
    (Instr.slice t (.slice a n c) (some (.int kd (k : Int))) none none).run Try.prog w = .ok (leftV a n c k) w := by
  rw [run_slice_l (P := Try.prog) w t a n c ht kd k (by omega) (by omega), hz w]
  simp only [Result.andThen, Int.toNat_natCast]
  unfold sliced leftV
  rw [Nat.mul_one]
def Numbered (g : Nat) (a : Option Addr) (n c : Nat) (xs ws : List Int) (w : World) (e : Ending) (w' : World) : Prop :=
  (offL ws ≤ n ∧ ∃ A k C w2, e = .returned (.slice A k C) ∧ Below w.heap.size w w2 ∧ w' = w2.setCell ⟨g, 0, none⟩ (leftV a n c (offL ws)) ∧ w2.ownsRow w.heap.size 25 1 (.slice A k C) k (kInts .u64 (valL xs ws))) ∨
  (n < offL ws ∧ e = .panicked [{ v := .iface 9 (.string tooEarly), recovered := false }] ∧ Below w.heap.size w w')
set_option maxHeartbeats 1000000 in
theorem numbers_any (g : Nat) (a : Option Addr) (n c : Nat) (xs : List Int) (b : Option Addr) (m d : Nat) (ws : List Int) (w : World) (hg : w.cell? ⟨g, 0, none⟩ = some (.slice a n c)) (hz : w.frozen? ⟨g, 0, none⟩ = false) (hx : BIn w a n xs) (hnil : a = none → n = 0 ∧ c = 0) (hnc : n ≤ c) (hy : NIn .i64 w b m ws) (hsane : Sane ws) (hn : n ≤ 100000) (hm : m ≤ 1000) :
    Calls Try.prog 24 #[.pointer (some ⟨g, 0, none⟩), .slice b m d] w (Numbered g a n c xs ws w) := by
  have H : Hid (BIn w a n xs ∧ NIn .i64 w b m ws ∧ (a = none → n = 0 ∧ c = 0) ∧ n ≤ c ∧ Sane ws ∧ w.cell? ⟨g, 0, none⟩ = some (.slice a n c) ∧ w.frozen? ⟨g, 0, none⟩ = false) := ⟨hx, hy, hnil, hnc, hsane, hg, hz⟩
  clear hx hy hnil hnc hsane hg hz
  go_enter Try.func24, Try.ntmps24
  go_wp2
  go_loopw [5, 13] (fun s i wr => ∃ j : Nat, j ≤ m ∧ i = .int .i64 j ∧ s = .int .i64 (offL (ws.take j) : Nat) ∧ wr = w)
    (fun _ i _ => m - (intOf i).toNat)
  case atStart => exact ⟨0, by omega, rfl, rfl, rfl⟩
  case round =>
    obtain ⟨j, hj, rfl, rfl, rfl⟩ := hrel
    obtain ⟨o, ho⟩ : ∃ o, o = offL (ws.take j) := ⟨_, rfl⟩
    have hob : o ≤ 8000 := by
      have := offL_le (ws.take j)
      rw [List.length_take] at this
      omega
    rw [← ho]
    have HO : Hid (o = offL (ws.take j)) := ho
    clear ho
    by_cases hlt : j < m
    · have hlt' : (j : Int) < m := by omega
      obtain ⟨b1, o1, rfl, hc1⟩ := H.out.2.1.2.2.2.resolve_left (by omega)
      have cw := hc1 j (by omega)
      have hjl : j < ws.length := by rw [H.out.2.1.1]; exact hlt
      have hs := sane_at H.out.2.2.2.2.1 hjl
      have h8 := wd_le (ws.getD j 0)
      have HN : Hid (ws.take (j + 1) = ws.take j ++ [ws.getD j 0]) := take_next ws hjl
      obtain ⟨X, eX⟩ : ∃ X, X = ws.getD j 0 := ⟨_, rfl⟩
      rw [← eX] at cw hs h8 HN
      have HX : Hid ((wd X : Int) = X) := hs
      have hx0 : 0 ≤ X := by omega
      have hx8 : X ≤ 8 := by omega
      clear hc1 eX hs h8 hjl
      go_wp2
      go_roundw
      case rel =>
        refine ⟨j + 1, by omega, by go_num, ?_, trivial⟩
        rw [HN.out, offL_snoc, ← HO.out]
        have := HX.out
        go_num
      case measure => simp [intOf]; omega
    · have hge : (m : Int) ≤ j := by omega
      have hjm : j = m := by omega
      have eT : ws.take j = ws := List.take_of_length_le (by rw [H.out.2.1.1]; omega)
      rw [eT] at HO
      clear hjm eT hlt hj
      obtain ⟨M, hM⟩ : ∃ M : Nat, M = min o n := ⟨_, rfl⟩
      have hM' : (if n < o then (n : Int) else o) = M := by rw [hM]; split <;> omega
      have hMc : M ≤ c := by have := H.out.2.2.2.1; omega
      have hsl := fun w => slice_front Try.underlying22 Try.one_bytes a n c M hMc w
      have hMn : M ≤ n := by omega
      have eX : xs.take M = xs.take (offL ws) := by
        rw [← HO.out]
        by_cases h : o ≤ n
        · rw [hM, Nat.min_eq_left h]
        · rw [hM, Nat.min_eq_right (by omega), List.take_of_length_le (by rw [H.out.1.1]; exact Nat.le_refl _), List.take_of_length_le (by rw [H.out.1.1]; omega)]
      have HM : Hid (xs.take M = xs.take (offL ws) ∧ M ≤ n ∧ M ≤ c) := ⟨eX, hMn, hMc⟩
      clear hM eX hMc hMn
      have c0 := H.out.2.2.2.2.2.1
      go_wp2
      have cT := take_of a M c (xs.take M) b m d ws wr.drew ((H.out.1.n.front M HM.out.2.1).b) (fun e => by have := H.out.2.2.1 e; have := HM.out; omega) HM.out.2.2 H.out.2.1 (by have := HM.out; omega) (by omega)
      have ed : decide (offL ws ≤ (xs.take (offL ws)).length) = decide (o ≤ n) := decide_eq_decide.2 (by rw [front_enough, ← HO.out, H.out.1.1])
      rw [HM.out.1, takeV_take, ed] at cT
      clear ed
      go_region_held3 (fun w' => w'.cell? ⟨g, 0, none⟩ = some (.slice a n c)) (first | exact c0 | exact c2)
        (first | (go_simp; go_at_call 35; refine cT.mono ?_; rintro e w2 ⟨A, k, C, R, r, D, rfl, ow, -, bl⟩; have bl' : Below wr.heap.size wr w2 := (Below.refl _ _).drew.trans bl; have c2 : w2.cell? ⟨g, 0, none⟩ = some (.slice a n c) := by (rw [bl'.cell (old_block c0)]; exact c0)))
      have f2 : w2.frozen? ⟨g, 0, none⟩ = false := by rw [bl'.frozen (old_block c0)]; exact H.out.2.2.2.2.2.2
      have HE : Hid (w2.ownsRow wr.heap.size 25 1 (.slice A k C) k (kInts .u64 (takeV xs ws)) ∧ Below wr.heap.size wr w2) := ⟨ow, bl'⟩
      clear ow bl cT bl' c0 hM' hsl
      by_cases hen : o ≤ n
      · rw [decide_eq_true hen]
        have hen' : (o : Int) ≤ n := by omega
        obtain ⟨A', eA⟩ : ∃ A', .slice A' (n - o) (c - o) = leftV a n c o := ⟨_, rfl⟩
        have hb := fun w => slice_backU Try.underlying22 Try.one_bytes .i64 a n c o hen w
        rw [← eA] at hb
        have HA : Hid (.slice A' (n - o) (c - o) = leftV a n c o) := eA
        clear eA
        go_wp2
        go_ret
        refine .inl ⟨by rw [← HO.out]; exact hen, A, k, C, w2, rfl, HE.out.2, by rw [← HO.out, ← HA.out], ?_⟩
        have := HE.out.1
        rwa [show takeV xs ws = valL xs ws by unfold takeV; rw [if_pos (by rw [← HO.out, H.out.1.1]; exact hen)]] at this
      · rw [decide_eq_false hen]
        go_wp2
        refine ⟨rfl, .inr ⟨by rw [← HO.out]; omega, rfl, HE.out.2⟩⟩
/-- Enough bytes: the numbers, and what is left. -/
theorem numbers_of (g : Nat) (a : Option Addr) (n c : Nat) (xs : List Int) (b : Option Addr) (m d : Nat) (ws : List Int) (w : World) (hg : w.cell? ⟨g, 0, none⟩ = some (.slice a n c)) (hz : w.frozen? ⟨g, 0, none⟩ = false) (hx : BIn w a n xs) (hnil : a = none → n = 0 ∧ c = 0) (hnc : n ≤ c) (hy : NIn .i64 w b m ws) (hsane : Sane ws) (hn : n ≤ 100000) (hm : m ≤ 1000) (hen : offL ws ≤ n) :
    Calls Try.prog 24 #[.pointer (some ⟨g, 0, none⟩), .slice b m d] w fun e w' => ∃ A k C w2, e = .returned (.slice A k C) ∧ Below w.heap.size w w2 ∧ w' = w2.setCell ⟨g, 0, none⟩ (leftV a n c (offL ws)) ∧ w2.ownsRow w.heap.size 25 1 (.slice A k C) k (kInts .u64 (valL xs ws)) := by
  refine (numbers_any g a n c xs b m d ws w hg hz hx hnil hnc hy hsane hn hm).mono ?_
  rintro e w' (⟨_, h⟩ | ⟨h, _⟩)
  · exact h
  · omega
/-- Too few: it panics. -/
theorem numbers_few (g : Nat) (a : Option Addr) (n c : Nat) (xs : List Int) (b : Option Addr) (m d : Nat) (ws : List Int) (w : World) (hg : w.cell? ⟨g, 0, none⟩ = some (.slice a n c)) (hz : w.frozen? ⟨g, 0, none⟩ = false) (hx : BIn w a n xs) (hnil : a = none → n = 0 ∧ c = 0) (hnc : n ≤ c) (hy : NIn .i64 w b m ws) (hsane : Sane ws) (hn : n ≤ 100000) (hm : m ≤ 1000) (hen : n < offL ws) :
    Calls Try.prog 24 #[.pointer (some ⟨g, 0, none⟩), .slice b m d] w fun e w' => e = .panicked [{ v := .iface 9 (.string tooEarly), recovered := false }] ∧ Below w.heap.size w w' := by
  refine (numbers_any g a n c xs b m d ws w hg hz hx hnil hnc hy hsane hn hm).mono ?_
  rintro e w' (⟨h, _⟩ | ⟨_, h⟩)
  · omega
  · exact h

theorem data_few (g : Nat) (a : Option Addr) (n c Z : Nat) (w : World) (hg : w.cell? ⟨g, 0, none⟩ = some (.slice a n c)) (hZ : (n : Int) < Z) (hn : n ≤ 100000) (hw : IntKind.u64.wrap (Z : Int) = Z) :
    Calls Try.prog 27 #[.pointer (some ⟨g, 0, none⟩), .int .u32 (Z : Int)] w fun e w' => e = .panicked [{ v := .iface 9 (.string tooEarly), recovered := false }] ∧ w' = w := by
  go_enter Try.func27, Try.ntmps27
  go_wp2
  exact ⟨rfl, rfl, rfl⟩
set_option maxHeartbeats 1000000 in
theorem data_of (g : Nat) (a : Option Addr) (n c Z : Nat) (xs : List Int) (w : World) (hg : w.cell? ⟨g, 0, none⟩ = some (.slice a n c)) (hz : w.frozen? ⟨g, 0, none⟩ = false) (hx : BIn w a n xs) (hnil : a = none → n = 0 ∧ c = 0) (hnc : n ≤ c) (hn : n ≤ 100000) (hZ : Z ≤ n) :
    Calls Try.prog 27 #[.pointer (some ⟨g, 0, none⟩), .int .u32 (Z : Int)] w fun e w' => ∃ A C w2, e = .returned (.slice A Z C) ∧ Below w.heap.size w w2 ∧ w' = w2.setCell ⟨g, 0, none⟩ (leftV a n c Z) ∧ w2.ownsRow w.heap.size 5 1 (.slice A Z C) Z (u8s (xs.take Z)) := by
  have hZn : (Z : Int) ≤ n := by omega
  have hw : IntKind.u64.wrap (Z : Int) = Z := by rw [IntKind.wrap_u64]; omega
  have hsf := fun w => slice_frontU Try.underlying22 Try.one_bytes .u32 a n c Z (by omega) w
  obtain ⟨A', eA⟩ : ∃ A', .slice A' (n - Z) (c - Z) = leftV a n c Z := ⟨_, rfl⟩
  have hsb := fun w => slice_backU Try.underlying22 Try.one_bytes .u32 a n c Z (by omega) w
  rw [← eA] at hsb ⊢
  clear eA
  have H : Hid (BIn w a Z (xs.take Z) ∧ (a = none → Z = 0 ∧ c = 0) ∧ w.frozen? ⟨g, 0, none⟩ = false ∧ g < w.heap.size ∧ w.cell? ⟨g, 0, none⟩ = some (.slice a n c)) := ⟨(hx.n.front Z hZ).b, fun e => by have := hnil e; omega, hz, old_block hg, hg⟩
  clear hx hnil hnc hz
  have hc2 : ∀ w2, Below w.heap.size w w2 → w2.cell? ⟨g, 0, none⟩ = some (.slice a n c) := fun w2 b => by rw [b.cell (by exact H.out.2.2.2.1)]; exact H.out.2.2.2.2
  have hf2 : ∀ w2, Below w.heap.size w w2 → w2.frozen? ⟨g, 0, none⟩ = false := fun w2 b => by rw [b.frozen (by exact H.out.2.2.2.1)]; exact H.out.2.2.1
  have HH : Hid ((∀ w2, Below w.heap.size w w2 → w2.cell? ⟨g, 0, none⟩ = some (.slice a n c)) ∧ (∀ w2, Below w.heap.size w w2 → w2.frozen? ⟨g, 0, none⟩ = false)) := ⟨hc2, hf2⟩
  clear hc2 hf2
  go_enter Try.func27, Try.ntmps27
  go_wp2_with (at_builtin; go_loud (refine wpList_append_bin rfl (.const (.slice none 0 0)) (.tmp 21) rfl w.heap.size none 0 0 [] rfl (World.ownsRow_nil _ _ _ _) a Z c (xs.take Z) rfl H.out.1 H.out.2.1 (by omega) (Nat.le_refl _) ?_; intro A C w2 ow2 bl2; simp only [Nat.zero_add, List.nil_append] at ow2 ⊢; have c2 := HH.out.1 w2 bl2; have f2 := HH.out.2 w2 bl2))
  go_ret
  exact ⟨A, C, w2, by simp, bl2, rfl, by simpa using ow2⟩
end Go.Proofs.Ytlfmdplaoalahaa
