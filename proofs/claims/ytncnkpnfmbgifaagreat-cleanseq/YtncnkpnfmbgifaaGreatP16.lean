/- Texts of this seat, one behind the other: RcCode, SgMath, LmMath, StMath. -/
import Derived.Test.YtncnkpnfmbgifaaGreatP12
import Derived.Test.YtncnkpnfmbgifaaGreatP8
import Derived.Test.YtncnkpnfmbgifaaGreatP15
import Derived.Defers
import Derived.Recover
import Derived.Test.YtncnkpnfmbgifaaGreatP2
import Derived.Test.YtncnkpnfmbgifaaGreatP1
import Derived.Test.YtncnkpnfmbgifaaGreatP5
import Derived.Test.YtncnkpnfmbgifaaGreatP14
/- What one call of rec's Encode and Decode does. -/
namespace Go.Proofs.YtncnkpnfmbgifaaGreat
open Go.RowKit
set_option linter.unusedVariables false
set_option maxRecDepth 4000

theorem catchE_idle (p q : Addr) (w : World) :
  CallsD Tryz.prog 182 #[.pointer (some p), .pointer (some q)] .returning w fun e u' w' => e = .returned (.tuple #[]) ∧ u' = .returning ∧ w' = w := by
 refine callsD_of_wpS Tryz.func182 rfl fun c₀ cs hu => ?_
 apply wpS_seq
 apply wpS_region
 simp [wpOpsS, go_sem, recoverD, hu, Tryz.ntmps182, Exit.thenS]
 refine wpS_cond (t := false) (by simp [Act.eval, Array.replicate]) ?_
 simp only [Bool.false_eq_true, if_false]
 refine wpS_of_wp (wp_skip ?_)
 cases c₀
 simp_all [bodyPostS, results, Tryz.results182]
theorem catchE_panicking (p q : Nat) (u : TypeId) (pv : Value) (older : List PanicEntry) (w : World) (v0 v1 : Value)
  (hp : w.cell? ⟨p, 0, none⟩ = some v0) (hq : w.cell? ⟨q, 0, none⟩ = some v1) (zp : w.frozen? ⟨p, 0, none⟩ = false) (zq : w.frozen? ⟨q, 0, none⟩ = false) (hne : q ≠ p) :
  CallsD Tryz.prog 182 #[.pointer (some ⟨p, 0, none⟩), .pointer (some ⟨q, 0, none⟩)] (.panicking ({ v := .iface u pv, recovered := false } :: older)) w fun e u' w' =>
   e = .returned (.tuple #[]) ∧ u' = .panicking ({ v := .iface u pv, recovered := true } :: older) ∧ w' = (w.setCell ⟨p, 0, none⟩ (.slice none 0 0)).setCell ⟨q, 0, none⟩ (.int .u16 110) := by
 refine callsD_of_wpS Tryz.func182 rfl fun c₀ cs hu => ?_
 apply wpS_seq
 apply wpS_region
 simp [wpOpsS, go_sem, recoverD, hu, Tryz.ntmps182, Exit.thenS]
 refine wpS_cond (t := true) (by simp [Act.eval, Array.replicate]) ?_
 simp only [if_true]
 apply wpS_region
 simp [wpOpsS, go_sem, hp, hq, zp, zq, bodyPostS, results, Tryz.results182]
def REncGot (w : World) (seq : Int) (xs : List It) (b : Int) (e : Ending) (w' : World) : Prop :=
 ∃ A n C, e = .returned (.tuple #[.slice A n C, .int .u16 (encE xs b)]) ∧ w'.ownsRow w.heap.size 5 1 (.slice A n C) n (u8s (encB seq xs b)) ∧ Below w.heap.size w w' ∧ C = n
def rdefE (q : Nat) : List Deferred := [{ target := .fn (.func 182) #[.pointer (some ⟨q + 1, 0, none⟩), .pointer (some ⟨q + 2, 0, none⟩)], args := #[] }]
theorem enc_results (q : Nat) (tmps : Array Value) (w : World) (v1 v2 : Value) (h4 : tmps.getD 4 undef = .pointer (some ⟨q + 1, 0, none⟩)) (h5 : tmps.getD 5 undef = .pointer (some ⟨q + 2, 0, none⟩)) (c1 : w.cell? ⟨q + 1, 0, none⟩ = some v1) (c2 : w.cell? ⟨q + 2, 0, none⟩ = some v2) :
  (results Tryz.f125 tmps).run Tryz.prog w = .ok (.tuple #[v1, v2]) w := by
 have k4 : tmps[4]?.getD undef = .pointer (some ⟨q + 1, 0, none⟩) := by simpa using h4
 have k5 : tmps[5]?.getD undef = .pointer (some ⟨q + 2, 0, none⟩) := by simpa using h5
 simp [results, Tryz.results125, go_sem, k4, k5, c1, c2]
theorem enc_died {q : Nat} {w V : World} {seq : Int} {xs : List It} {b : Int} (hq : q = w.heap.size) (hb : Blk V (q + 1) [.slice none 0 0] 43) (he : Blk V (q + 2) [.int .u16 0] 68) (bel : Below w.heap.size w V) (hno : ¬ GoodR xs b) (tmps : Array Value) (h4 : tmps.getD 4 undef = .pointer (some ⟨q + 1, 0, none⟩)) (h5 : tmps.getD 5 undef = .pointer (some ⟨q + 2, 0, none⟩)) :
  Leaves Tryz.prog Tryz.f125 tmps (REncGot w seq xs b) (rdefE q) (.panicking [{ v := .iface 9 (.string noBlock), recovered := false }]) V := by
 refine leaves_cons (f := 182) (args := #[.pointer (some ⟨q + 1, 0, none⟩), .pointer (some ⟨q + 2, 0, none⟩)]) (by simp) (by simp [go_sem]) ?_
 refine (catchE_panicking (q + 1) (q + 2) 9 _ [] _ _ _ (hb.cell 0) (he.cell 0) (hb.frozen 0) (he.frozen 0) (by omega)).mono ?_
 rintro e u' w'' ⟨rfl, rfl, rfl⟩
 have k1 := (hb.set 0 (.slice none 0 0)).set_other (a := ⟨q + 2, 0, none⟩) (by show q + 1 ≠ q + 2; omega) (.int .u16 110)
 have k2 := (he.set_other (a := ⟨q + 1, 0, none⟩) (by show q + 2 ≠ q + 1; omega) (.slice none 0 0)).set 0 (.int .u16 110)
 refine ⟨_, enc_results q tmps _ _ _ h4 h5 (k1.cell 0) (k2.cell 0), none, 0, 0, ?_⟩
 unfold encE encB
 rw [if_neg hno, if_neg hno]
 exact ⟨rfl, World.ownsRow_nil _ _ _ _, (bel.setCell (by show w.heap.size ≤ q + 1; omega) _).setCell (by show w.heap.size ≤ q + 2; omega) _, rfl⟩
theorem enc_told {q : Nat} {w V : World} {seq : Int} {xs : List It} {b : Int} {pb N : Nat} (hq : q = w.heap.size) (hb : Blk V (q + 1) [.slice (some ⟨pb, 0, none⟩) N N] 43) (he : Blk V (q + 2) [.int .u16 0] 68) (bel : Below w.heap.size w V) (hg : GoodR xs b) (hN : b = N) (ow : V.ownsRow w.heap.size 5 1 (.slice (some ⟨pb, 0, none⟩) N N) N (u8s (encL seq xs N))) (tmps : Array Value) (h4 : tmps.getD 4 undef = .pointer (some ⟨q + 1, 0, none⟩)) (h5 : tmps.getD 5 undef = .pointer (some ⟨q + 2, 0, none⟩)) :
  Leaves Tryz.prog Tryz.f125 tmps (REncGot w seq xs b) (rdefE q) .returning V := by
 refine leaves_cons (f := 182) (args := #[.pointer (some ⟨q + 1, 0, none⟩), .pointer (some ⟨q + 2, 0, none⟩)]) (by simp) (by simp [go_sem]) ?_
 refine (catchE_idle _ _ _).mono ?_
 rintro e u' w'' ⟨rfl, rfl, rfl⟩
 refine ⟨_, enc_results q tmps _ _ _ h4 h5 (hb.cell 0) (he.cell 0), some ⟨pb, 0, none⟩, N, N, ?_⟩
 unfold encE encB
 rw [if_pos hg, if_pos hg, hN]
 exact ⟨rfl, ow, bel, rfl⟩
set_option maxHeartbeats 2000000 in
theorem encode_of (seq : Int) (A : Option Addr) (n C : Nat) (xs : List It) (b : Int) (w : World) (hs : FitsU seq) (hi : ItsIn w A n xs) :
  Calls Tryz.prog 125 #[.agg #[.int .u64 seq, .slice A n C], .int .i64 b] w (REncGot w seq xs b) := by
 have hmf : ∀ (fn : Fn) (first cap : Array Value) (w : World), (Instr.makeFunc fn first cap).run Tryz.prog w = .ok (.func fn first cap) w := fun _ _ _ _ => rfl
 obtain ⟨q, hq⟩ : ∃ q, q = w.heap.size := ⟨_, rfl⟩
 have r0 : Blk (((w.alloc (.cells #[.int .u64 seq, .slice A n C] 181)).alloc (.cells #[.slice none 0 0] 43)).alloc (.cells #[.int .u16 0] 68)) q [.int .u64 seq, .slice A n C] 181 := ((Blk.new' hq.symm rfl).alloc _).alloc _
 have r1 : Blk (((w.alloc (.cells #[.int .u64 seq, .slice A n C] 181)).alloc (.cells #[.slice none 0 0] 43)).alloc (.cells #[.int .u16 0] 68)) (q + 1) [.slice none 0 0] 43 := (Blk.new' (by simp [hq]) rfl).alloc _
 have r2 : Blk (((w.alloc (.cells #[.int .u64 seq, .slice A n C] 181)).alloc (.cells #[.slice none 0 0] 43)).alloc (.cells #[.int .u16 0] 68)) (q + 2) [.int .u16 0] 68 := Blk.new' (by simp [hq]) rfl
 have bw : Below w.heap.size w (((w.alloc (.cells #[.int .u64 seq, .slice A n C] 181)).alloc (.cells #[.slice none 0 0] 43)).alloc (.cells #[.int .u16 0] 68)) := (((Below.refl _ _).alloc (Nat.le_refl _) _).alloc (by simp) _).alloc (by simp; omega) _
 have H : Hid (FitsU seq ∧ ItsIn w A n xs ∧ q = w.heap.size) := ⟨hs, hi, hq⟩
 clear hs hi
 go_enter_defers Tryz.func125, Tryz.ntmps125
 go_upto_region 2 with fail
 rw [← hq]
 have e2 : q + 1 + 1 = q + 2 := rfl
 rw [e2]
 clear hq e2
 generalize hW : World.alloc (World.alloc (World.alloc w _) _) _ = W at r0 r1 r2 bw ⊢
 have HW : Hid (Blk W (q + 1) [.slice none 0 0] 43 ∧ Blk W (q + 2) [.int .u16 0] 68 ∧ Below w.heap.size w W) := ⟨r1, r2, bw⟩
 have c0 : W.cell? ⟨q, 0, none⟩ = some (.int .u64 seq) := r0.cell 0
 have c1 : W.cell? ⟨q, 1, none⟩ = some (.slice A n C) := r0.cell 1
 clear r0 r1 r2 bw hW
 go_wp2_with fail
 refine (written_of seq A n C xs b W H.out.1 (H.out.2.1.below HW.out.2.2)).mono ?_
 rintro e W2 ⟨b2, (⟨hno, he⟩ | ⟨hg, pb, N, hN, rfl, ow⟩)⟩
 ·unfold diedE at he
  subst he
  exact enc_died H.out.2.2 (HW.out.1.below b2 HW.out.1.lt) (HW.out.2.1.below b2 HW.out.2.1.lt) (HW.out.2.2.trans (b2.mono HW.out.2.2.size)) hno _ rfl rfl
 ·have k1 := HW.out.1.below b2 HW.out.1.lt
  have k2 := HW.out.2.1.below b2 HW.out.2.1.lt
  have d1 : W2.cell? ⟨q + 1, 0, none⟩ = some (.slice none 0 0) := k1.cell 0
  have d2 : W2.cell? ⟨q + 2, 0, none⟩ = some (.int .u16 0) := k2.cell 0
  have z1 := k1.frozen 0
  have z2 := k2.frozen 0
  have hlt := HW.out.2.1.lt
  have HZ : Hid (Blk ((W2.setCell ⟨q + 1, 0, none⟩ (.slice (some ⟨pb, 0, none⟩) N N)).setCell ⟨q + 2, 0, none⟩ (.int .u16 0)) (q + 1) [.slice (some ⟨pb, 0, none⟩) N N] 43 ∧ Blk ((W2.setCell ⟨q + 1, 0, none⟩ (.slice (some ⟨pb, 0, none⟩) N N)).setCell ⟨q + 2, 0, none⟩ (.int .u16 0)) (q + 2) [.int .u16 0] 68 ∧
    Below w.heap.size w ((W2.setCell ⟨q + 1, 0, none⟩ (.slice (some ⟨pb, 0, none⟩) N N)).setCell ⟨q + 2, 0, none⟩ (.int .u16 0)) ∧ ((W2.setCell ⟨q + 1, 0, none⟩ (.slice (some ⟨pb, 0, none⟩) N N)).setCell ⟨q + 2, 0, none⟩ (.int .u16 0)).ownsRow w.heap.size 5 1 (.slice (some ⟨pb, 0, none⟩) N N) N (u8s (encL seq xs N)) ∧ GoodR xs b ∧ b = N) :=
   ⟨(k1.set 0 _).set_other (by show q + 1 ≠ q + 2; omega) _, (k2.set_other (by show q + 2 ≠ q + 1; omega) _).set 0 _, ((HW.out.2.2.trans (b2.mono HW.out.2.2.size)).setCell (by show w.heap.size ≤ q + 1; have := H.out.2.2; omega) _).setCell (by show w.heap.size ≤ q + 2; have := H.out.2.2; omega) _,
    own_lowerN (ownsRow_setCell_below (ownsRow_setCell_below ow (by show q + 1 < W.heap.size; omega) _) (by show q + 2 < W.heap.size; omega) _) HW.out.2.2.size, hg, hN⟩
  clear k1 k2 b2 ow hg hN hlt
  go_wp2
  exact enc_told H.out.2.2 HZ.out.1 HZ.out.2.1 HZ.out.2.2.1 HZ.out.2.2.2.2.1 HZ.out.2.2.2.2.2 HZ.out.2.2.2.1 _ rfl rfl

end Go.Proofs.YtncnkpnfmbgifaaGreat

/- States of zones: lists of numbers. -/
namespace Go.Proofs.YtncnkpnfmbgifaaGreat
set_option linter.unusedVariables false
set_option maxRecDepth 4000

def stZ (L : List Int) (z : Int) : Int := if 0 ≤ z then L.getD z.toNat 0 else 0
def turnZ (L : List Int) (z a b : Int) : List Int := if stZ L z = a then L.set z.toNat b else L
def firstN (L : List Int) (a : Int) : Nat := L.findIdx (fun x => x == a)
def takeZ (L : List Int) : List Int := if firstN L 1 < L.length then L.set (firstN L 1) 2 else L
def takeI (L : List Int) : Int := if firstN L 1 < L.length then firstN L 1 else 0
def takeB (L : List Int) : Bool := decide (firstN L 1 < L.length)
def listTo (L : List Int) (a : Int) : Nat → List Int
 | 0 => []
 | k + 1 => if L.getD k 0 = a then listTo L a k ++ [(k : Int)] else listTo L a k
def listZ (L : List Int) (a : Int) : List Int := listTo L a L.length
def cntZ (L : List Int) (a : Int) : Nat := (listZ L a).length
def lowB (L : List Int) (r : Int) : Bool := decide ((cntZ L 1 : Int) ≤ r)
def newZ (n : Nat) : List Int := 4 :: 4 :: List.replicate (n - 2) 1

theorem getD_at {L : List Int} {i : Nat} (h : i < L.length) : L.getD i 0 = L[i] := by simp [List.getD, h]
theorem getD_out {L : List Int} {i : Nat} (h : L.length ≤ i) : L.getD i 0 = 0 := by simp [List.getD, List.getElem?_eq_none h]
theorem stZ_nat (L : List Int) (i : Nat) : stZ L i = L.getD i 0 := by simp [stZ]
theorem stZ_out {L : List Int} {z : Int} (h : z < 0 ∨ (L.length : Int) ≤ z) : stZ L z = 0 := by
 unfold stZ
 split
 ·exact getD_out (by omega)
 ·rfl
theorem stZ_in {L : List Int} {z a : Int} (h : stZ L z = a) (ha : a ≠ 0) : 0 ≤ z ∧ z < L.length := by
 rcases Int.lt_or_le z 0 with h0 | h0
 ·exact absurd (h.symm.trans (stZ_out (.inl h0))) ha
 ·rcases Int.lt_or_le z L.length with h1 | h1
  ·exact ⟨h0, h1⟩
  ·exact absurd (h.symm.trans (stZ_out (.inr h1))) ha
theorem turnZ_length (L : List Int) (z a b : Int) : (turnZ L z a b).length = L.length := by unfold turnZ; split <;> simp
theorem takeZ_length (L : List Int) : (takeZ L).length = L.length := by unfold takeZ; split <;> simp
theorem newZ_length {n : Nat} (h : 2 ≤ n) : (newZ n).length = n := by simp [newZ]; omega

theorem first_le (L : List Int) (a : Int) : firstN L a ≤ L.length := List.findIdx_le_length
theorem first_at {L : List Int} {a : Int} (h : firstN L a < L.length) : L.getD (firstN L a) 0 = a := by
 have e : (L[firstN L a]'h == a) = true := List.findIdx_getElem (w := h)
 rw [getD_at h]
 simpa using e
theorem first_not {L : List Int} {a : Int} {i : Nat} (h : i < firstN L a) : L.getD i 0 ≠ a := by
 have hl : i < L.length := Nat.lt_of_lt_of_le h (first_le L a)
 have := List.not_of_lt_findIdx h
 rw [getD_at hl]
 intro e
 simp [e] at this
theorem first_is {L : List Int} {a : Int} {i : Nat} (hl : i < L.length) (hi : L.getD i 0 = a) (hn : ∀ j, j < i → L.getD j 0 ≠ a) : firstN L a = i := by
 rcases Nat.lt_trichotomy (firstN L a) i with h | h | h
 ·exact absurd (first_at (by omega)) (hn _ h)
 ·exact h
 ·exact absurd hi (first_not h)
theorem first_none {L : List Int} {a : Int} (hn : ∀ j, j < L.length → L.getD j 0 ≠ a) : firstN L a = L.length := by
 rcases Nat.lt_or_ge (firstN L a) L.length with h | h
 ·exact absurd (first_at h) (hn _ h)
 ·have := first_le L a; omega

theorem getD_set (L : List Int) (i j : Nat) (b : Int) (hi : i < L.length) : (L.set i b).getD j 0 = if j = i then b else L.getD j 0 := by
 by_cases h : j = i
 ·subst h; simp [List.getD, hi]
 ·simp [List.getD, h, List.getElem?_set_ne (Ne.symm h)]
theorem stZ_turn {L : List Int} {z a b : Int} (ha : a ≠ 0) (y : Int) : stZ (turnZ L z a b) y = if y = z ∧ stZ L z = a then b else stZ L y := by
 unfold turnZ
 by_cases h : stZ L z = a
 ·obtain ⟨h0, h1⟩ := stZ_in h ha
  simp only [h, if_true, and_true]
  by_cases hy : y = z
  ·subst hy
   simp only [if_true]
   unfold stZ
   rw [if_pos h0, getD_set _ _ _ _ (by omega), if_pos rfl]
  ·rw [if_neg hy]
   unfold stZ
   split
   ·rw [getD_set _ _ _ _ (by omega), if_neg (by omega)]
   ·rfl
 ·simp [h]
theorem take_turn (L : List Int) : takeZ L = if firstN L 1 < L.length then turnZ L (firstN L 1) 1 2 else L := by
 unfold takeZ
 split
 ·rename_i h
  unfold turnZ
  rw [stZ_nat, if_pos (first_at h)]
  simp
 ·rfl

theorem listTo_length (L : List Int) (a : Int) : ∀ k, (listTo L a k).length ≤ k
 | 0 => Nat.le_refl _
 | k + 1 => by
  have := listTo_length L a k
  unfold listTo
  split
  ·simp; omega
  ·omega
theorem listTo_step (L : List Int) (a : Int) (k : Nat) : listTo L a (k + 1) = if L.getD k 0 = a then listTo L a k ++ [(k : Int)] else listTo L a k := rfl
theorem listTo_mem {L : List Int} {a : Int} : ∀ {k : Nat} {x : Int}, x ∈ listTo L a k ↔ ∃ i, i < k ∧ L.getD i 0 = a ∧ x = i
 | 0, x => by simp [listTo]
 | k + 1, x => by
  have ih := listTo_mem (L := L) (a := a) (k := k) (x := x)
  unfold listTo
  split
  ·rename_i h
   rw [List.mem_append, ih, List.mem_singleton]
   constructor
   ·rintro (⟨i, h1, h2, h3⟩ | rfl)
    ·exact ⟨i, by omega, h2, h3⟩
    ·exact ⟨k, by omega, h, rfl⟩
   ·rintro ⟨i, h1, h2, h3⟩
    rcases Nat.lt_or_ge i k with h4 | h4
    ·exact .inl ⟨i, h4, h2, h3⟩
    ·have : i = k := by omega
     subst this; exact .inr h3
  ·rename_i h
   rw [ih]
   constructor
   ·rintro ⟨i, h1, h2, h3⟩; exact ⟨i, by omega, h2, h3⟩
   ·rintro ⟨i, h1, h2, h3⟩
    rcases Nat.lt_or_ge i k with h4 | h4
    ·exact ⟨i, h4, h2, h3⟩
    ·have : i = k := by omega
     subst this; exact absurd h2 h
theorem cnt_set {L : List Int} {a : Int} {z : Nat} {b : Int} (hz : z < L.length) : ∀ k, (listTo (L.set z b) a k).length + (if z < k ∧ L.getD z 0 = a then 1 else 0) = (listTo L a k).length + (if z < k ∧ b = a then 1 else 0)
 | 0 => by simp [listTo]
 | k + 1 => by
  have ih := cnt_set (a := a) (b := b) hz k
  have e := getD_set L z k b hz
  rw [listTo_step, listTo_step, e]
  rcases Nat.lt_trichotomy z k with h | h | h
  ·have h' : z < k + 1 := by omega
   have hk : ¬ k = z := by omega
   simp only [h, h', hk, true_and, if_false] at ih ⊢
   by_cases h1 : L.getD k 0 = a
   ·simp only [h1, if_true, List.length_append, List.length_singleton]; omega
   ·simp only [h1, if_false]; exact ih
  ·subst h
   have h' : z < z + 1 := by omega
   simp only [Nat.lt_irrefl, false_and, if_false, Nat.add_zero] at ih
   simp only [h', true_and, if_true]
   by_cases h1 : b = a
   ·subst h1
    by_cases h2 : L.getD z 0 = b
    ·simp only [h2, if_true, List.length_append, List.length_singleton]; omega
    ·simp only [h2, if_true, if_false, List.length_append, List.length_singleton]; omega
   ·by_cases h2 : L.getD z 0 = a
    ·simp only [h1, h2, if_true, if_false, List.length_append, List.length_singleton]; omega
    ·simp only [h1, h2, if_false]; omega
  ·have h0 : ¬ z < k := by omega
   have h' : ¬ z < k + 1 := by omega
   have hk : ¬ k = z := by omega
   simp only [h0, h', hk, false_and, if_false, Nat.add_zero] at ih ⊢
   by_cases h1 : L.getD k 0 = a
   ·simp only [h1, if_true, List.length_append, List.length_singleton]; omega
   ·simp only [h1, if_false]; exact ih
theorem cnt_turn {L : List Int} {z : Nat} {c b : Int} (a : Int) (hz : z < L.length) (hc : L.getD z 0 = c) : cntZ (L.set z b) a + (if c = a then 1 else 0) = cntZ L a + (if b = a then 1 else 0) := by
 have := cnt_set (a := a) (b := b) hz L.length
 unfold cntZ listZ
 rw [List.length_set]
 simp only [hz, true_and, hc] at this
 exact this
end Go.Proofs.YtncnkpnfmbgifaaGreat

/- Places of blocks, as lists: what putting, dropping and looking up do to them. -/
namespace Go.Proofs.YtncnkpnfmbgifaaGreat
set_option linter.unusedVariables false
set_option maxRecDepth 4000

theorem ltP_not (x y : Pr) : ltP x y = false ↔ ¬ (x.1 < y.1 ∨ (x.1 = y.1 ∧ x.2 < y.2)) := by unfold ltP; simp
theorem pr_ne {x y : Pr} : x ≠ y ↔ (x.1 ≠ y.1 ∨ x.2 ≠ y.2) := by
 obtain ⟨a, b⟩ := x
 obtain ⟨c, d⟩ := y
 simp only [ne_eq, Prod.mk.injEq]
 omega
theorem pr_eq {x y : Pr} : x = y ↔ (x.1 = y.1 ∧ x.2 = y.2) := by
 obtain ⟨a, b⟩ := x
 obtain ⟨c, d⟩ := y
 simp
theorem ltP_irrefl (x : Pr) : ltP x x = false := by rw [ltP_not]; omega
theorem ltP_trans {x y z : Pr} (h : ltP x y = true) (k : ltP y z = true) : ltP x z = true := by rw [ltP_iff] at *; omega
theorem ltP_asymm {x y : Pr} (h : ltP x y = true) : ltP y x = false := by rw [ltP_iff] at h; rw [ltP_not]; omega
theorem ltP_ne {x y : Pr} (h : ltP x y = true) : x ≠ y := by rintro rfl; rw [ltP_irrefl] at h; cases h
theorem ltP_total {x y : Pr} (h : x ≠ y) (k : ltP x y = false) : ltP y x = true := by rw [ltP_not] at k; rw [ltP_iff]; rw [pr_ne] at h; omega
theorem ltP_anti {x y : Pr} (h : ltP x y = false) (k : ltP y x = false) : x = y := by
 by_cases e : x = y
 ·exact e
 ·rw [ltP_total e h] at k; cases k

structure Good (S : List Pl) : Prop where
 up : S.Pairwise (fun p q => ltP p.1 q.1 = true)
 apart : S.Pairwise (fun p q => p.2 ≠ q.2)
 fits : ∀ p ∈ S, FitsP p
theorem good_nil : Good [] := ⟨.nil, .nil, by simp⟩
theorem eq_of_pairwise {α β : Type} (f : α → β) : ∀ {l : List α}, l.Pairwise (fun p q => f p ≠ f q) → ∀ {p q : α}, p ∈ l → q ∈ l → f p = f q → p = q
 | [], _, _, _, hp, _, _ => by simp at hp
 | a :: r, h, p, q, hp, hq, e => by
  obtain ⟨h1, h2⟩ := List.pairwise_cons.1 h
  rcases List.mem_cons.1 hp with e1 | hp1
  ·rcases List.mem_cons.1 hq with e2 | hq1
   ·rw [e1, e2]
   ·exact absurd (e1 ▸ e) (h1 q hq1)
  ·rcases List.mem_cons.1 hq with e2 | hq1
   ·exact absurd (e2 ▸ e.symm) (h1 p hp1)
   ·exact eq_of_pairwise f h2 hp1 hq1 e
theorem Good.names {S : List Pl} (h : Good S) : S.Pairwise (fun p q => p.1 ≠ q.1) := h.up.imp (fun h => ltP_ne h)
theorem Good.one_name {S : List Pl} (h : Good S) {p q : Pl} (hp : p ∈ S) (hq : q ∈ S) (e : p.1 = q.1) : p = q := eq_of_pairwise (fun p : Pl => p.1) h.names hp hq e
theorem Good.one_spot {S : List Pl} (h : Good S) {p q : Pl} (hp : p ∈ S) (hq : q ∈ S) (e : p.2 = q.2) : p = q := eq_of_pairwise (fun p : Pl => p.2) h.apart hp hq e
theorem eq_of_mem {α : Type} {f : α → Pr} : ∀ {l l' : List α}, l.Pairwise (fun p q => ltP (f p) (f q) = true) → l'.Pairwise (fun p q => ltP (f p) (f q) = true) → (∀ p, p ∈ l ↔ p ∈ l') → l = l'
 | [], [], _, _, _ => rfl
 | [], a :: r, _, _, h => by have := (h a).2 (by simp); simp at this
 | a :: r, [], _, _, h => by have := (h a).1 (by simp); simp at this
 | a :: r, a' :: r', h1, h2, h => by
  obtain ⟨k1, k2⟩ := List.pairwise_cons.1 h1
  obtain ⟨k1', k2'⟩ := List.pairwise_cons.1 h2
  have e : a = a' := by
   rcases List.mem_cons.1 ((h a).1 (by simp)) with e | hm
   ·exact e
   ·rcases List.mem_cons.1 ((h a').2 (by simp)) with e | hm'
    ·exact e.symm
    ·have := ltP_asymm (k1' a hm); rw [k1 a' hm'] at this; cases this
  subst e
  have : r = r' := eq_of_mem k2 k2' fun p => by
   have hp := h p
   simp only [List.mem_cons] at hp
   constructor
   ·intro hm
    rcases hp.1 (.inr hm) with rfl | h'
    ·exact absurd rfl (ltP_ne (k1 p hm))
    ·exact h'
   ·intro hm
    rcases hp.2 (.inr hm) with rfl | h'
    ·exact absurd rfl (ltP_ne (k1' p hm))
    ·exact h'
  rw [this]

def getS (S : List Pl) (n : Pr) : Option Pr := (S.find? (fun p => p.1 == n)).map (·.2)
def atS (S : List Pl) (s : Pr) : Option Pr := (S.find? (fun p => p.2 == s)).map (·.1)
theorem getS_some {S : List Pl} (h : Good S) {n s : Pr} : getS S n = some s ↔ (n, s) ∈ S := by
 unfold getS
 constructor
 ·intro e
  obtain ⟨p, hp, rfl⟩ := Option.map_eq_some_iff.1 e
  have h1 := List.find?_some hp
  have h2 := List.mem_of_find?_eq_some hp
  have : p.1 = n := by simpa using h1
  rw [← this]; exact h2
 ·intro hm
  obtain ⟨p, hp⟩ : ∃ p, S.find? (fun p => p.1 == n) = some p := by
   rw [← Option.isSome_iff_exists, List.find?_isSome]
   exact ⟨_, hm, by simp⟩
  rw [hp]
  have h1 := List.find?_some hp
  have h2 := List.mem_of_find?_eq_some hp
  have h3 : p.1 = n := by simpa using h1
  rw [h.one_name h2 hm h3]
  rfl
theorem getS_none {S : List Pl} {n : Pr} : getS S n = none ↔ ∀ s, (n, s) ∉ S := by
 unfold getS
 rw [Option.map_eq_none_iff, List.find?_eq_none]
 constructor
 ·intro h s hm; exact h _ hm (by simp)
 ·intro h p hp e
  have : p.1 = n := by simpa using e
  exact h p.2 (by rw [← this]; exact hp)
theorem atS_some {S : List Pl} (h : Good S) {n s : Pr} : atS S s = some n ↔ (n, s) ∈ S := by
 unfold atS
 constructor
 ·intro e
  obtain ⟨p, hp, rfl⟩ := Option.map_eq_some_iff.1 e
  have h1 := List.find?_some hp
  have h2 := List.mem_of_find?_eq_some hp
  have : p.2 = s := by simpa using h1
  rw [← this]; exact h2
 ·intro hm
  obtain ⟨p, hp⟩ : ∃ p, S.find? (fun p => p.2 == s) = some p := by
   rw [← Option.isSome_iff_exists, List.find?_isSome]
   exact ⟨_, hm, by simp⟩
  rw [hp]
  have h1 := List.find?_some hp
  have h2 := List.mem_of_find?_eq_some hp
  have h3 : p.2 = s := by simpa using h1
  rw [h.one_spot h2 hm h3]
  rfl
theorem atS_none {S : List Pl} {s : Pr} : atS S s = none ↔ ∀ n, (n, s) ∉ S := by
 unfold atS
 rw [Option.map_eq_none_iff, List.find?_eq_none]
 constructor
 ·intro h n hm; exact h _ hm (by simp)
 ·intro h p hp e
  have : p.2 = s := by simpa using e
  exact h p.1 (by rw [← this]; exact hp)

def dropS (S : List Pl) (n : Pr) : List Pl := S.filter (fun p => p.1 != n)
theorem mem_dropS {S : List Pl} {n : Pr} {p : Pl} : p ∈ dropS S n ↔ p ∈ S ∧ p.1 ≠ n := by unfold dropS; simp [List.mem_filter]
theorem Good.filter {S : List Pl} (h : Good S) (f : Pl → Bool) : Good (S.filter f) := ⟨h.up.filter _, h.apart.filter _, fun p hp => h.fits p (List.mem_filter.1 hp).1⟩
theorem Good.drop {S : List Pl} (h : Good S) (n : Pr) : Good (dropS S n) := h.filter _
theorem drop_none {S : List Pl} {n : Pr} (h : getS S n = none) : dropS S n = S := by
 unfold dropS
 rw [List.filter_eq_self]
 intro p hp
 have := getS_none.1 h p.2
 simp only [bne_iff_ne, ne_eq]
 intro e
 exact this (by rw [← e]; exact hp)
theorem drop_len (S : List Pl) (n : Pr) : decide ((dropS S n).length < S.length) = (getS S n).isSome := by
 cases hg : getS S n with
 | none => rw [drop_none hg]; simp
 | some s =>
  have : ∃ p ∈ S, p.1 = n := by
   unfold getS at hg
   obtain ⟨p, hp, _⟩ := Option.map_eq_some_iff.1 hg
   exact ⟨p, List.mem_of_find?_eq_some hp, by simpa using List.find?_some hp⟩
  obtain ⟨p, hp, e⟩ := this
  have : (dropS S n).length < S.length := by
   unfold dropS
   rw [List.length_filter_lt_length_iff_exists]
   exact ⟨p, hp, by simp [e]⟩
  simp [this]

def putStep (p : Pl) (s : List Pl × Bool) (x : Pl) : List Pl × Bool :=
 (s.1 ++ ((if !s.2 && (ltP p.1 x.1 || x.1 == p.1) then [p] else []) ++ (if !(x.1 == p.1) && (x.2 != p.2) then [x] else [])), s.2 || (ltP p.1 x.1 || x.1 == p.1))
def putAll (p : Pl) (S : List Pl) : List Pl × Bool := S.foldl (putStep p) ([], false)
def putS (S : List Pl) (p : Pl) : List Pl := if (putAll p S).2 then (putAll p S).1 else (putAll p S).1 ++ [p]
def keepB (p x : Pl) : Bool := !(x.1 == p.1) && (x.2 != p.2)
def insN (p : Pl) : List Pl → List Pl
 | [] => [p]
 | q :: r => if ltP p.1 q.1 then p :: q :: r else q :: insN p r
theorem insN_perm (p : Pl) : ∀ L : List Pl, (insN p L).Perm (p :: L)
 | [] => .refl _
 | q :: r => by
  unfold insN
  split
  ·exact .refl _
  ·exact ((insN_perm p r).cons q).trans (List.Perm.swap p q r)
theorem insN_up (p : Pl) : ∀ L : List Pl, L.Pairwise (fun p q => ltP p.1 q.1 = true) → (∀ q ∈ L, q.1 ≠ p.1) → (insN p L).Pairwise (fun p q => ltP p.1 q.1 = true)
 | [], _, _ => by simp [insN]
 | q :: r, h, hn => by
  obtain ⟨h1, h2⟩ := List.pairwise_cons.1 h
  unfold insN
  split
  ·rename_i hb
   refine List.pairwise_cons.2 ⟨fun x hx => ?_, h⟩
   rcases List.mem_cons.1 hx with rfl | hx
   ·exact hb
   ·exact ltP_trans hb (h1 x hx)
  ·rename_i hb
   have hqp : ltP q.1 p.1 = true := ltP_total (hn q (by simp)).symm (by simpa using hb)
   refine List.pairwise_cons.2 ⟨fun x hx => ?_, insN_up p r h2 (fun x hx => hn x (by simp [hx]))⟩
   rcases List.mem_cons.1 ((insN_perm p r).mem_iff.1 hx) with rfl | hx
   ·exact hqp
   ·exact h1 x hx
theorem put_done (p : Pl) : ∀ (S : List Pl) (o : List Pl), S.foldl (putStep p) (o, true) = (o ++ S.filter (keepB p), true)
 | [], o => by simp
 | x :: r, o => by
  rw [List.foldl_cons]
  have : putStep p (o, true) x = (o ++ (if keepB p x then [x] else []), true) := by simp [putStep, keepB]
  rw [this, put_done p r]
  by_cases h : keepB p x = true
  ·simp [h]
  ·simp [h]
theorem put_go (p : Pl) : ∀ (S : List Pl) (o : List Pl), S.Pairwise (fun p q => ltP p.1 q.1 = true) →
  (if (S.foldl (putStep p) (o, false)).2 then (S.foldl (putStep p) (o, false)).1 else (S.foldl (putStep p) (o, false)).1 ++ [p]) = o ++ insN p (S.filter (keepB p))
 | [], o, _ => by simp [insN]
 | x :: r, o, h => by
  obtain ⟨h1, h2⟩ := List.pairwise_cons.1 h
  rw [List.foldl_cons]
  by_cases hd : (ltP p.1 x.1 || x.1 == p.1) = true
  ·have : putStep p (o, false) x = (o ++ ([p] ++ (if keepB p x then [x] else [])), true) := by simp [putStep, keepB, hd]
   rw [this, put_done p r]
   have hall : ∀ q ∈ r, ltP p.1 q.1 = true := by
    intro q hq
    have hxq := h1 q hq
    simp only [Bool.or_eq_true, beq_iff_eq] at hd
    rcases hd with hd | hd
    ·exact ltP_trans hd hxq
    ·rw [← hd]; exact hxq
   have hins : ∀ L : List Pl, (∀ q ∈ L, ltP p.1 q.1 = true) → insN p L = p :: L := by
    intro L hL
    cases L with
    | nil => rfl
    | cons q t => unfold insN; rw [if_pos (hL q (by simp))]
   by_cases hk : keepB p x = true
   ·have hx : ltP p.1 x.1 = true := by
     simp only [Bool.or_eq_true, beq_iff_eq] at hd
     rcases hd with hd | hd
     ·exact hd
     ·simp [keepB, hd] at hk
    rw [List.filter_cons_of_pos hk, hins _ (by
     intro q hq
     rcases List.mem_cons.1 hq with rfl | hq
     ·exact hx
     ·exact hall q (List.mem_filter.1 hq).1)]
    simp [hk]
   ·rw [List.filter_cons_of_neg hk, hins _ (fun q hq => hall q (List.mem_filter.1 hq).1)]
    simp [hk]
  ·have hd' : (ltP p.1 x.1 || x.1 == p.1) = false := by simpa using hd
   have : putStep p (o, false) x = (o ++ (if keepB p x then [x] else []), false) := by simp [putStep, keepB, hd']
   rw [this, put_go p r _ h2]
   have hnl : ltP p.1 x.1 = false := (Bool.or_eq_false_iff.1 hd').1
   by_cases hk : keepB p x = true
   ·rw [List.filter_cons_of_pos hk]
    simp [hk, insN, hnl]
   ·rw [List.filter_cons_of_neg hk]
    simp [hk]
theorem putS_eq {S : List Pl} (h : Good S) (p : Pl) : putS S p = insN p (S.filter (keepB p)) := by
 have := put_go p S [] h.up
 unfold putS putAll
 simpa using this
theorem mem_putS {S : List Pl} (h : Good S) {p q : Pl} : q ∈ putS S p ↔ q = p ∨ (q ∈ S ∧ q.1 ≠ p.1 ∧ q.2 ≠ p.2) := by
 rw [putS_eq h, (insN_perm p _).mem_iff, List.mem_cons, List.mem_filter]
 simp [keepB]
theorem Good.put {S : List Pl} (h : Good S) {p : Pl} (hp : FitsP p) : Good (putS S p) := by
 have hf := h.filter (keepB p)
 refine ⟨?_, ?_, fun q hq => ?_⟩
 ·rw [putS_eq h]
  refine insN_up p _ hf.up (fun q hq => ?_)
  have := (List.mem_filter.1 hq).2
  simp [keepB] at this
  exact this.1
 ·rw [putS_eq h]
  refine ((insN_perm p _).pairwise_iff (fun {a b} (hn : a.2 ≠ b.2) => hn.symm)).2 (List.pairwise_cons.2 ⟨fun q hq => ?_, hf.apart⟩)
  have := (List.mem_filter.1 hq).2
  simp [keepB] at this
  exact fun e => this.2 e.symm
 ·rcases (mem_putS h).1 hq with rfl | h'
  ·exact hp
  ·exact h.fits q h'.1
theorem putS_len {S : List Pl} (h : Good S) (p : Pl) : (putS S p).length ≤ S.length + 1 := by
 rw [putS_eq h, (insN_perm p _).length_eq, List.length_cons]
 exact Nat.succ_le_succ (List.length_filter_le _ _)
theorem dropS_len (S : List Pl) (n : Pr) : (dropS S n).length ≤ S.length := List.length_filter_le _ _
def IsIn (S : List Pl) (z : Int) (L : List Pl) : Prop := L.Pairwise (fun p q => ltP p.2 q.2 = true) ∧ ∀ p, p ∈ L ↔ p ∈ S ∧ p.2.1 = z
theorem IsIn.one {S : List Pl} {z : Int} {L L' : List Pl} (h : IsIn S z L) (h' : IsIn S z L') : L = L' := eq_of_mem (f := fun p : Pl => p.2) h.1 h'.1 (fun p => by rw [h.2, h'.2])
theorem perm_of_mem {α : Type} [DecidableEq α] {l l' : List α} (h : l.Nodup) (h' : l'.Nodup) (hm : ∀ x, x ∈ l ↔ x ∈ l') : l.Perm l' := by
 rw [List.perm_iff_count]
 intro x
 rw [h.count, h'.count]
 by_cases hx : x ∈ l
 ·rw [if_pos hx, if_pos ((hm x).1 hx)]
 ·rw [if_neg hx, if_neg (fun h => hx ((hm x).2 h))]
theorem IsIn.len {S : List Pl} (g : Good S) {z : Int} {L : List Pl} (h : IsIn S z L) : L.length = (S.filter (fun p => p.2.1 == z)).length := by
 refine (perm_of_mem ?_ ?_ (fun p => ?_)).length_eq
 ·exact h.1.imp (fun {a b} h (e : a = b) => ltP_ne h (by rw [e]))
 ·exact (g.apart.filter _).imp (fun {a b} h (e : a = b) => h (by rw [e]))
 ·rw [h.2, List.mem_filter]; simp
end Go.Proofs.YtncnkpnfmbgifaaGreat

/- A store, as lists: what one record, and what Put, make of it. -/
namespace Go.Proofs.YtncnkpnfmbgifaaGreat
open Go.RowKit
set_option linter.unusedVariables false
set_option maxRecDepth 4000

structure Pt where
 t : Int
 b : Int
 x : Bool
 d : List Int
def Pt.n (p : Pt) : Pr := (p.t, p.b)
def Pt.Fits (p : Pt) : Prop := Fits32 p.t ∧ FitsU p.b ∧ ∀ z ∈ p.d, Fits8 z
def itP (p : Pt) : It := if p.x then ⟨p.t, p.b, 2, 0, 0⟩ else ⟨p.t, p.b, 1, crI 0 p.d, (endsN p.d : Nat)⟩
structure St where
 s : Sh
 zs : List Zn
 L : List Int
 S : List Pl
 q : Int
 la : List Int
 o : Int
def roomZ (s : Sh) (zs : List Zn) (a : Int) : Int := s.zb - ((atZ zs a).1.length : Int)
def curA (L : List Int) : Int := match listZ L 2 with | z :: _ => z | [] => takeI L
def curB (L : List Int) : Bool := match listZ L 2 with | _ :: _ => true | [] => takeB L
def curL (L : List Int) : List Int := match listZ L 2 with | _ :: _ => L | [] => takeZ L
def muZ (L : List Int) : Nat := cntZ L 1 + cntZ L 2
def openF (s : Sh) (zs : List Zn) (k : Int) : Nat → List Int → Int × Bool × List Int
 | 0, L => (curA L, curB L, curL L)
 | f + 1, L => if curB L = true ∧ roomZ s zs (curA L) < k then openF s zs k f (turnZ (curL L) (curA L) 2 3) else (curA L, curB L, curL L)
def openZ (s : Sh) (zs : List Zn) (k : Int) (L : List Int) : Int × Bool × List Int := openF s zs k (muZ L) L
def frN : List Pt → Nat → Int → Nat
 | [], _, _ => 0
 | _ :: _, 0, _ => 0
 | p :: l, k + 1, d => if p.x = true then frN l k d + 1 else if 0 < d then frN l k (d - 1) + 1 else 0
def oneP (s : Sh) (z : Int) (y : List Zn × List Pl) (p : Pt) : List Zn × List Pl :=
 if p.x = true then (y.1, dropS y.2 p.n) else (appZ s y.1 z p.d, putS y.2 (p.n, appA s y.1 z p.d))
def incU (q : Int) : Int := (q + 1) % 18446744073709551616
def recZ (st : St) (z : Int) (l : List Pt) : List Zn := appZ st.s st.zs z (encB (incU st.q) (l.map itP) st.s.b)
def wrY (st : St) (z : Int) (l : List Pt) (k : Nat) : List Zn × List Pl := (l.take k).foldl (oneP st.s z) (recZ st z l, st.S)
def fullL (s : Sh) (zs : List Zn) (L : List Int) (z : Int) : List Int := if roomZ s zs z = 0 then turnZ L z 2 3 else L
def writeM (st : St) (z : Int) (l : List Pt) : St :=
 { st with zs := (wrY st z l l.length).1, S := (wrY st z l l.length).2, L := fullL st.s (wrY st z l l.length).1 st.L z, q := incU st.q, la := st.la.set z.toNat (incU st.q) }
def needP (p : Pt) : Int := if p.x = true then 1 else 2
def frontN (st : St) (a : Int) (l : List Pt) : Nat := frN l (roomI st.s.b).toNat (roomZ st.s st.zs a - 1)
def putF : Nat → St → List Pt → Int × St
 | 0, st, _ => (0, st)
 | _ + 1, st, [] => (0, st)
 | f + 1, st, p :: l =>
  if (openZ st.s st.zs (needP p) st.L).2.1 = true then
   putF f (writeM { st with L := (openZ st.s st.zs (needP p) st.L).2.2 } (openZ st.s st.zs (needP p) st.L).1 ((p :: l).take (frontN st (openZ st.s st.zs (needP p) st.L).1 (p :: l)))) ((p :: l).drop (frontN st (openZ st.s st.zs (needP p) st.L).1 (p :: l)))
  else (160, { st with L := (openZ st.s st.zs (needP p) st.L).2.2 })
def okP (s : Sh) (l : List Pt) : Prop := ∀ p ∈ l, p.x = true ∨ (p.d.length : Int) = s.b
instance (s : Sh) (l : List Pt) : Decidable (okP s l) := by unfold okP; infer_instance
def putM (st : St) (l : List Pt) : Int × St := if okP st.s l then putF l.length st l else (1, st)

theorem incU_fits (q : Int) : FitsU (incU q) := by unfold incU FitsU; omega
theorem putFnil (f : Nat) (st : St) : putF f st [] = (0, st) := by cases f <;> rfl
theorem wrY_zero (st : St) (z : Int) (l : List Pt) : wrY st z l 0 = (recZ st z l, st.S) := by simp [wrY]
theorem wrY_next {st : St} {z : Int} {l : List Pt} {k : Nat} {p : Pt} (h : l[k]? = some p) : wrY st z l (k + 1) = oneP st.s z (wrY st z l k) p := by
 unfold wrY
 rw [take_snoc h, List.foldl_append]
 rfl
theorem frN_le : ∀ (l : List Pt) (k : Nat) (d : Int), frN l k d ≤ l.length ∧ frN l k d ≤ k
 | [], k, d => by simp [frN]
 | p :: l, 0, d => by simp [frN]
 | p :: l, k + 1, d => by
  unfold frN
  split
  ·have := frN_le l k d; simp; omega
  ·split
   ·have := frN_le l k (d - 1); simp; omega
   ·simp
theorem cur_in {L : List Int} (h : curB L = true) : ∃ i : Nat, curA L = i ∧ i < L.length ∧ (curL L).getD i 0 = 2 ∧ (curL L).length = L.length := by
 unfold curB at h
 unfold curA curL
 cases hl : listZ L 2 with
 | cons z r =>
  have hz : z ∈ listZ L 2 := by rw [hl]; simp
  obtain ⟨i, hi, h2, rfl⟩ := listTo_mem.1 hz
  exact ⟨i, rfl, hi, h2, rfl⟩
 | nil =>
  rw [hl] at h
  simp only [takeB, decide_eq_true_eq] at h
  refine ⟨firstN L 1, by simp [takeI, h], h, ?_, takeZ_length L⟩
  simp only [takeZ, if_pos h]
  rw [getD_set _ _ _ _ h, if_pos rfl]
theorem curL_length (L : List Int) : (curL L).length = L.length := by
 unfold curL; split
 ·rfl
 ·exact takeZ_length L
theorem cur_mu {L : List Int} (h : curB L = true) : muZ (turnZ (curL L) (curA L) 2 3) + 1 = muZ L := by
 obtain ⟨i, hA, hi, h2, hl⟩ := cur_in h
 have hi' : i < (curL L).length := by omega
 have e : turnZ (curL L) (curA L) 2 3 = (curL L).set i 3 := by
  unfold turnZ
  rw [hA, stZ_nat, if_pos h2]
  simp
 have h1 := cnt_turn (L := curL L) (z := i) (c := 2) (b := 3) 1 hi' h2
 have h2' := cnt_turn (L := curL L) (z := i) (c := 2) (b := 3) 2 hi' h2
 rw [e]
 unfold muZ
 simp at h1 h2'
 rw [h1]
 unfold curB at h
 unfold curL at h2' ⊢
 cases hc : listZ L 2 with
 | cons z r => rw [hc] at h2'; simp only at h2' ⊢; omega
 | nil =>
  rw [hc] at h2' h
  simp only at h2' h ⊢
  simp only [takeB, decide_eq_true_eq] at h
  have f1 := first_at h
  have g1 := cnt_turn (L := L) (z := firstN L 1) (c := 1) (b := 2) 1 h f1
  have g2 := cnt_turn (L := L) (z := firstN L 1) (c := 1) (b := 2) 2 h f1
  simp at g1 g2
  simp only [takeZ, if_pos h] at h2' ⊢
  omega
theorem openZ_step (s : Sh) (zs : List Zn) (k : Int) (L : List Int) : openZ s zs k L = if curB L = true ∧ roomZ s zs (curA L) < k then openZ s zs k (turnZ (curL L) (curA L) 2 3) else (curA L, curB L, curL L) := by
 unfold openZ
 cases hm : muZ L with
 | zero =>
  rw [if_neg (fun h => by have := cur_mu h.1; omega)]
  rfl
 | succ f =>
  rw [show openF s zs k (f + 1) L = if curB L = true ∧ roomZ s zs (curA L) < k then openF s zs k f (turnZ (curL L) (curA L) 2 3) else (curA L, curB L, curL L) from rfl]
  by_cases h : curB L = true ∧ roomZ s zs (curA L) < k
  ·have := cur_mu h.1
   rw [if_pos h, if_pos h, show muZ (turnZ (curL L) (curA L) 2 3) = f by omega]
  ·rw [if_neg h, if_neg h]
theorem openZ_more {s : Sh} {zs : List Zn} {k : Int} {L : List Int} (h : curB L = true) (hr : roomZ s zs (curA L) < k) : openZ s zs k (turnZ (curL L) (curA L) 2 3) = openZ s zs k L := by
 rw [openZ_step s zs k L, if_pos ⟨h, hr⟩]
theorem openZ_done {s : Sh} {zs : List Zn} {k : Int} {L : List Int} (h : ¬ (curB L = true ∧ roomZ s zs (curA L) < k)) : openZ s zs k L = (curA L, curB L, curL L) := by
 rw [openZ_step s zs k L, if_neg h]
theorem openZ_in (s : Sh) (zs : List Zn) (k : Int) : ∀ (m : Nat) (L : List Int), muZ L = m → (openZ s zs k L).2.1 = true → ∃ i : Nat, (openZ s zs k L).1 = i ∧ i < L.length ∧ (openZ s zs k L).2.2.getD i 0 = 2 ∧ k ≤ roomZ s zs i := by
 intro m
 induction m with
 | zero =>
  intro L hm h
  have hn : ¬ (curB L = true ∧ roomZ s zs (curA L) < k) := fun h => by have := cur_mu h.1; omega
  rw [openZ_done hn] at h ⊢
  obtain ⟨i, h1, h2, h3, h4⟩ := cur_in h
  refine ⟨i, h1, h2, h3, ?_⟩
  rcases Int.lt_or_le (roomZ s zs i) k with h' | h'
  ·exact (hn ⟨h, by rw [h1]; exact h'⟩).elim
  ·exact h'
 | succ m ih =>
  intro L hm h
  by_cases hn : curB L = true ∧ roomZ s zs (curA L) < k
  ·have hc := cur_mu hn.1
   rw [← openZ_more hn.1 hn.2] at h ⊢
   obtain ⟨i, h1, h2, h3⟩ := ih _ (by omega) h
   exact ⟨i, h1, by rw [turnZ_length, curL_length] at h2; exact h2, h3⟩
  ·rw [openZ_done hn] at h ⊢
   obtain ⟨i, h1, h2, h3, h4⟩ := cur_in h
   refine ⟨i, h1, h2, h3, ?_⟩
   rcases Int.lt_or_le (roomZ s zs i) k with h' | h'
   ·exact (hn ⟨h, by rw [h1]; exact h'⟩).elim
   ·exact h'
theorem openZ_length (s : Sh) (zs : List Zn) (k : Int) : ∀ (m : Nat) (L : List Int), muZ L = m → (openZ s zs k L).2.2.length = L.length := by
 intro m
 induction m with
 | zero =>
  intro L hm
  rw [openZ_done (fun h => by have := cur_mu h.1; omega)]
  exact curL_length L
 | succ m ih =>
  intro L hm
  by_cases hn : curB L = true ∧ roomZ s zs (curA L) < k
  ·have hc := cur_mu hn.1
   rw [← openZ_more hn.1 hn.2, ih _ (by omega), turnZ_length, curL_length]
  ·rw [openZ_done hn]
   exact curL_length L
theorem front_pos {st : St} {a : Int} {p : Pt} {l : List Pt} (hr : RightS st.s) (h : needP p ≤ roomZ st.s st.zs a) : 0 < frontN st a (p :: l) := by
 have hb : st.s.b ∈ PowR := hr.2.2.2.2.1
 have hR : 2 ≤ roomI st.s.b := by
  unfold roomI
  rw [if_pos hb]
  have := pow_bounds hb
  omega
 unfold frontN needP at *
 obtain ⟨k, hk⟩ : ∃ k, (roomI st.s.b).toNat = k + 1 := ⟨(roomI st.s.b).toNat - 1, by omega⟩
 rw [hk]
 unfold frN
 by_cases hx : p.x = true
 ·rw [if_pos hx]; omega
 ·rw [if_neg hx] at h ⊢
  rw [if_pos (by omega)]
  omega
end Go.Proofs.YtncnkpnfmbgifaaGreat
