/- Lists of floats in the world; the best of a list, and its mean. -/
import Derived.Test.YtilhhgkplonipaaFOrd
import Derived.Deep.MidRow
import Derived.Laws.AppendOwnNone
import Derived.OpenShut
import Derived.OwnWalk
namespace Go.Proofs.Ytilhhgkplonipaa
open Go.RowKit Ieee
set_option linter.unusedVariables false
set_option maxRecDepth 4000

def fvs (S : List Nat) : List Value := S.map (Value.float .f64)
theorem fvs_length (L : List Nat) : (fvs L).length = L.length := by simp [fvs]
theorem fvs_one (L : List Nat) : ∀ v ∈ fvs L, v.oneCell' = true := by intro v hv; simp [fvs] at hv; obtain ⟨z, _, rfl⟩ := hv; rfl
theorem old_block {w : World} {a : Addr} {v : Value} (h : w.cell? a = some v) : a.block < w.heap.size := by
  rcases Nat.lt_or_ge a.block w.heap.size with h' | h'
  · exact h'
  · simp [World.cell?, Array.getElem?_eq_none h'] at h
theorem Try.zero_f64 : (Try.prog.info? 22).map (fun i => (i.zero, i.size, i.bytes)) = some (some (.float .f64 0), 1, 8) := by kernel_rfl

/-- A list of floats that lies in the world. -/
def FIn (w : World) (a : Option Addr) (len : Nat) (zs : List Nat) : Prop :=
  zs.length = len ∧ len ≤ maxLen ∧ (∀ z ∈ zs, z < 2 ^ 64) ∧
  (len = 0 ∨ ∃ b off, a = some ⟨b, off, none⟩ ∧ ∀ i, i < len → w.cell? ⟨b, off + i, none⟩ = some (.float .f64 (zs.getD i 0)))
theorem FIn.below {w w' : World} {a : Option Addr} {len : Nat} {zs : List Nat} (h : FIn w a len zs) (hb : Below w.heap.size w w') : FIn w' a len zs := by
  obtain ⟨h1, h2, h3, h4⟩ := h
  refine ⟨h1, h2, h3, ?_⟩
  rcases h4 with h4 | ⟨b, off, ha, hc⟩
  · exact .inl h4
  · exact .inr ⟨b, off, ha, fun i hi => by rw [hb.cell (old_block (hc i hi))]; exact hc i hi⟩
theorem FIn.drawn {w w' : World} {a : Option Addr} {len : Nat} {zs : List Nat} (h : FIn w a len zs) (d : Drawn w w') : FIn w' a len zs := h.below (d.below (Below.refl _ _))
theorem fin_none (w : World) : FIn w none 0 [] := ⟨rfl, Nat.zero_le _, by simp, .inl rfl⟩
theorem new_fin {w : World} {k n : Nat} {L : List Nat} {C : Array Value} {fr : Nat × Nat} (hk : w.heap.size = k) (hC : C = (fvs L).toArray) (hn : L.length = n) (hf : ∀ z ∈ L, z < 2 ^ 64) (hm : n ≤ maxLen) :
    FIn (w.alloc (.cells C 22 fr)) (some ⟨k, 0, none⟩) n L := by
  subst hk; subst hC; subst hn
  refine ⟨rfl, hm, hf, .inr ⟨_, 0, rfl, fun i hi => ?_⟩⟩
  rw [Nat.zero_add, World.cell?_alloc_mark]
  simp [fvs, List.getD, hi]
theorem FIn.alloc {w : World} {a : Option Addr} {len : Nat} {zs : List Nat} (h : FIn w a len zs) (o : Obj) : FIn (w.alloc o) a len zs := h.below ((Below.refl _ _).alloc (Nat.le_refl _) o)
theorem FIn.part {w : World} {b off len : Nat} {zs : List Nat} (h : FIn w (some ⟨b, off, none⟩) len zs) (i m : Nat) (hik : i + m ≤ len) : FIn w (some ⟨b, off + i, none⟩) m ((zs.drop i).take m) := by
  obtain ⟨h1, h2, h3, h4⟩ := h
  refine ⟨by rw [List.length_take, List.length_drop, h1]; omega, by omega, fun z hz => h3 z (List.mem_of_mem_drop (List.mem_of_mem_take hz)), ?_⟩
  by_cases h0 : m = 0
  · exact .inl h0
  · obtain ⟨b', off', he, hc⟩ := h4.resolve_left (by omega)
    cases he
    refine .inr ⟨_, _, rfl, fun j hj => ?_⟩
    have := hc (i + j) (by omega)
    rw [Nat.add_assoc, this]
    simp [List.getD, hj]
theorem FIn.front {w : World} {a : Option Addr} {len : Nat} {zs : List Nat} (h : FIn w a len zs) (m : Nat) (hm : m ≤ len) : FIn w a m (zs.take m) := by
  obtain ⟨h1, h2, h3, h4⟩ := h
  refine ⟨by rw [List.length_take, h1]; omega, by omega, fun z hz => h3 z (List.mem_of_mem_take hz), ?_⟩
  by_cases h0 : m = 0
  · exact .inl h0
  · obtain ⟨b', off', he, hc⟩ := h4.resolve_left (by omega)
    refine .inr ⟨_, _, he, fun j hj => ?_⟩
    rw [hc j (by omega)]
    simp [List.getD, hj]
theorem FIn.back {w : World} {a : Option Addr} {len c : Nat} {zs : List Nat} (h : FIn w a len zs) (i : Nat) (hi : i ≤ len) (hc : len ≤ c) : FIn w (if c = i then a else a.map (·.add i)) (len - i) (zs.drop i) := by
  by_cases h0 : len - i = 0
  · have h1 := h.1
    exact ⟨by rw [List.length_drop, h1], by omega, fun z hz => h.2.2.1 z (List.mem_of_mem_drop hz), .inl h0⟩
  · obtain ⟨b, off, rfl, hcell⟩ := h.2.2.2.resolve_left (by omega)
    rw [if_neg (by omega)]
    have := FIn.part h i (len - i) (by omega)
    rw [List.take_of_length_le (by rw [List.length_drop, h.1]; exact Nat.le_refl _)] at this
    simpa [Addr.add_mid] using this
theorem fits_at {B : List Nat} (h : ∀ z ∈ B, z < 2 ^ 64) (i : Nat) : B.getD i 0 < 2 ^ 64 := by
  by_cases hi : i < B.length
  · have : B.getD i 0 = B[i] := by simp [List.getD, hi]
    rw [this]; exact h _ (List.getElem_mem hi)
  · have : B.getD i 0 = 0 := by simp [List.getD, List.getElem?_eq_none (by omega : B.length ≤ i)]
    rw [this]; decide

theorem own_fin {w : World} {base : Nat} {a : Option Addr} {n c : Nat} {zs : List Nat} (h : w.ownsRow base 22 1 (.slice a n c) n (fvs zs)) (hm : n ≤ maxLen) (hz : ∀ z ∈ zs, z < 2 ^ 64) :
    FIn w a n zs := by
  have hl : zs.length = n := by have := h.1; simp [fvs] at this; omega
  refine ⟨hl, hm, hz, ?_⟩
  rcases h.2 with ⟨hv, hn⟩ | ⟨g, cap, cur, hv, hb, hg, hc, hcm, hsz, htake⟩
  · exact .inl hn
  · cases hv
    refine .inr ⟨g, 0, rfl, fun i hi => ?_⟩
    have hcl := h.cells (g := g) rfl i (.float .f64 (zs.getD i 0)) (by simp [fvs, List.getD, hl, hi])
    rw [Addr.add_mid] at hcl
    exact hcl
theorem wpList_append_fin {ops : Array Oper} {rest : List Oper} {o : Oper} {a : Act} {Q : Exit → Act → World → Prop} {w : World} (hgd : o.guard = none) (s x : Operand)
    (ho : o.op = .call { callee := .builtin .append, args := #[s, x], argTypes := #[31, 31] }) (base : Nat)
    (a0 : Option Addr) (n0 c0 : Nat) (xs : List Nat) (hs : a.eval s = .slice a0 n0 c0) (hown : w.ownsRow base 22 1 (.slice a0 n0 c0) n0 (fvs xs))
    (a1 : Option Addr) (n1 c1 : Nat) (zs : List Nat) (hx : a.eval x = .slice a1 n1 c1) (hin : FIn w a1 n1 zs) (hnil : a1 = none → n1 = 0 ∧ c1 = 0)
    (hle : n0 + n1 ≤ 1000000) (hbase : base ≤ w.heap.size)
    (h : ∀ a' c' w', w'.ownsRow base 22 1 (.slice a' (n0 + n1) c') (n0 + n1) (fvs (xs ++ zs)) → Below base w w' → wpList Try.prog ops Q rest (a.put o.dst (.slice a' (n0 + n1) c')) w') :
    wpList Try.prog ops Q (o :: rest) a w := by
  obtain ⟨i0, hi, hz0, hz1, hz2⟩ := info_parts Try.zero_f64
  obtain ⟨hl, hm, hfit, hcell⟩ := hin
  cases a1 with
  | none =>
    obtain ⟨rfl, rfl⟩ := hnil rfl
    have : zs = [] := List.length_eq_zero_iff.1 hl
    subst this
    refine wpList_append_own_none hgd s x 31 ho base 22 i0 1 Try.underlying31 hi _ n0 (fvs xs) hs hown hx ?_
    have := h a0 c0 w (by simpa using hown) (Below.refl _ _)
    simpa using this
  | some ad =>
    refine wpList_append_own w hgd s x 31 ho base 22 i0 (.float .f64 0) 1 8 Try.underlying31 hi hz0 hz1 hz2 rfl (by decide) _ n0 (fvs xs) hs hown ad n1 c1 (fvs zs) hx (by simp [fvs, hl]) ?_ (fvs_one _) (by unfold maxLen; omega) (by omega) hbase ?_
    · intro j u hj
      have hjl : j < n1 := by
        have := (List.getElem?_eq_some_iff.1 hj).1
        rwa [fvs_length, hl] at this
      rcases hcell with hc | ⟨b, off, ha, hc⟩
      · omega
      · cases ha
        rw [Addr.add_mid, hc j hjl, ← hj]
        simp [fvs, List.getD, hl, hjl]
    · intro v' w' hown' hgrow _
      have hb : Below base w w' := (Below.refl base w).grown hgrow hbase (fun k hk => (hown.lt k hk).1)
      have hcat : fvs xs ++ fvs zs = fvs (xs ++ zs) := by simp [fvs]
      rw [hcat] at hown'
      obtain ⟨a', c', rfl⟩ : ∃ a' c', v' = .slice a' (n0 + n1) c' := by
        rcases hown'.2 with ⟨hv, hn⟩ | ⟨g, cap, cur, hv, _⟩
        · exact ⟨none, 0, by rw [hv, hn]⟩
        · exact ⟨_, _, hv⟩
      exact h a' c' w' hown' hb

/-- The first place of the greatest of the first j; -1: none of them is a number. -/
def BestTo (zs : List Nat) (j : Nat) (B : Int) : Prop :=
  (B = -1 ∧ ∀ i, i < j → Nan (zs.getD i 0)) ∨
  ∃ k : Nat, B = k ∧ k < j ∧ ¬ Nan (zs.getD k 0) ∧ (∀ i, i < j → ¬ Nan (zs.getD i 0) → key (zs.getD i 0) ≤ key (zs.getD k 0)) ∧ (∀ i, i < k → ¬ Nan (zs.getD i 0) → key (zs.getD i 0) < key (zs.getD k 0))
theorem BestTo.one {zs : List Nat} {j : Nat} {B C : Int} (h : BestTo zs j B) (g : BestTo zs j C) : B = C := by
  rcases h with ⟨rfl, h⟩ | ⟨k, rfl, hk, hn, h1, h2⟩ <;> rcases g with ⟨rfl, g⟩ | ⟨l, rfl, hl, gn, g1, g2⟩
  · rfl
  · exact absurd (h l hl) gn
  · exact absurd (g k hk) hn
  · have a := h1 l hl gn
    have b := g1 k hk hn
    rcases Nat.lt_trichotomy k l with c | c | c
    · have := g2 k c hn; omega
    · rw [c]
    · have := h2 l c gn; omega
theorem BestTo.up {zs : List Nat} {j : Nat} {B : Int} (h : BestTo zs j B) (hz : ¬ Nan (zs.getD j 0)) (hg : ∀ k : Nat, B = k → key (zs.getD k 0) < key (zs.getD j 0)) : BestTo zs (j + 1) j := by
  refine .inr ⟨j, rfl, by omega, hz, fun i hi hn => ?_, fun i hi hn => ?_⟩
  · rcases Nat.lt_or_ge i j with hj | hj
    · rcases h with ⟨rfl, h⟩ | ⟨k, rfl, hk, kn, h1, h2⟩
      · exact absurd (h i hj) hn
      · have := h1 i hj hn; have := hg k rfl; omega
    · obtain rfl : i = j := by omega
      exact Int.le_refl _
  · rcases h with ⟨rfl, h⟩ | ⟨k, rfl, hk, kn, h1, h2⟩
    · exact absurd (h i hi) hn
    · have := h1 i hi hn; have := hg k rfl; omega
theorem BestTo.stay {zs : List Nat} {j : Nat} {B : Int} (h : BestTo zs j B) (hg : Nan (zs.getD j 0) ∨ ∃ k : Nat, B = k ∧ key (zs.getD j 0) ≤ key (zs.getD k 0)) : BestTo zs (j + 1) B := by
  rcases h with ⟨rfl, h⟩ | ⟨k, rfl, hk, kn, h1, h2⟩
  · refine .inl ⟨rfl, fun i hi => ?_⟩
    rcases Nat.lt_or_ge i j with hj | hj
    · exact h i hj
    · obtain rfl : i = j := by omega
      rcases hg with hg | ⟨k, e, _⟩
      · exact hg
      · omega
  · refine .inr ⟨k, rfl, by omega, kn, fun i hi hn => ?_, h2⟩
    rcases Nat.lt_or_ge i j with hj | hj
    · exact h1 i hj hn
    · obtain rfl : i = j := by omega
      rcases hg with hg | ⟨k', e, hk'⟩
      · exact absurd hg hn
      · have : k' = k := by omega
        rw [← this]; exact hk'

/-- Beside it, the greatest one. -/
def BSt (zs : List Nat) (j : Nat) (B : Int) (G : Nat) : Prop := BestTo zs j B ∧ ((B = -1 ∧ Nan G) ∨ ∃ k : Nat, B = k ∧ k < j ∧ G = zs.getD k 0 ∧ ¬ Nan G)
theorem ordI_pos (x y : Nat) : 0 < ordI x y ↔ ¬ Nan x ∧ (Nan y ∨ key y < key x) := by
  unfold ordI
  by_cases a : Nan x
  · rw [if_pos a]
    by_cases b : Nan y
    · rw [if_pos b]; simp [a]
    · rw [if_neg b]; simp [a]
  · rw [if_neg a]
    by_cases b : Nan y
    · rw [if_pos b]; simp [a, b]
    · rw [if_neg b]
      by_cases c : key x < key y
      · rw [if_pos c]; simp [a, b]; omega
      · rw [if_neg c]
        by_cases d : key y < key x
        · rw [if_pos d]; simp [a, d]
        · rw [if_neg d]; simp [b, d]
theorem BSt.up {zs : List Nat} {j : Nat} {B : Int} {G : Nat} (h : BSt zs j B G) (hp : 0 < ordI (zs.getD j 0) G) : BSt zs (j + 1) j (zs.getD j 0) := by
  obtain ⟨hn, hk⟩ := (ordI_pos _ _).1 hp
  refine ⟨h.1.up hn fun k e => ?_, .inr ⟨j, rfl, by omega, rfl, hn⟩⟩
  rcases h.2 with ⟨e2, hG⟩ | ⟨k', e2, _, e3, hG⟩
  · omega
  · have : k' = k := by omega
    rw [← this, ← e3]
    exact hk.resolve_left hG
theorem BSt.stay {zs : List Nat} {j : Nat} {B : Int} {G : Nat} (h : BSt zs j B G) (hp : ¬ 0 < ordI (zs.getD j 0) G) : BSt zs (j + 1) B G := by
  rw [ordI_pos] at hp
  refine ⟨h.1.stay ?_, ?_⟩
  · by_cases hn : Nan (zs.getD j 0)
    · exact .inl hn
    · rcases h.2 with ⟨e2, hG⟩ | ⟨k', e2, _, e3, hG⟩
      · exact absurd ⟨hn, .inl hG⟩ hp
      · refine .inr ⟨k', e2, ?_⟩
        rw [← e3]
        rcases Int.lt_or_le (key G) (key (zs.getD j 0)) with c | c
        · exact absurd ⟨hn, .inr c⟩ hp
        · exact c
  · rcases h.2 with h2 | ⟨k', e2, hk, e3, hG⟩
    · exact .inl h2
    · exact .inr ⟨k', e2, by omega, e3, hG⟩
theorem BSt.range {zs : List Nat} {j : Nat} {B : Int} {G : Nat} (h : BSt zs j B G) : -1 ≤ B ∧ B ≤ j := by
  rcases h.1 with ⟨rfl, _⟩ | ⟨k, rfl, hk, _⟩ <;> omega

set_option maxHeartbeats 1000000 in
theorem best_of (a : Option Addr) (n c : Nat) (zs : List Nat) (w : World) (hin : FIn w a n zs) (hn : n ≤ 1000000) :
    Calls Try.prog 19 #[.slice a n c] w fun e w' => ∃ B, e = .returned (.int .i64 B) ∧ BestTo zs n B ∧ w' = w := by
  have H : Hid (FIn w a n zs) := hin
  clear hin
  go_enter Try.func19, Try.ntmps19
  go_wp2_with fail
  refine (nanv_of w).mono ?_
  rintro e w ⟨rfl, rfl⟩
  go_wp2
  go_loopw [3, 4, 10] (fun b g i wr => ∃ (j : Nat) (B : Int) (G : Nat), j ≤ n ∧ i = .int .i64 j ∧ b = .int .i64 B ∧ g = .float .f64 G ∧ BSt zs j B G ∧ wr = w)
    (fun _ _ i _ => n - (intOf i).toNat)
  case atStart => exact ⟨0, -1, 9221120237041090561, by omega, rfl, rfl, rfl, ⟨.inl ⟨rfl, fun i hi => by omega⟩, .inl ⟨rfl, by decide⟩⟩, rfl⟩
  case round =>
    obtain ⟨j, B, G, hj, rfl, rfl, rfl, st, rfl⟩ := hrel
    have HS : Hid (BSt zs j B G ∧ j ≤ n) := ⟨st, hj⟩
    clear st hj
    by_cases hlt : j < n
    · have hlt' : (j : Int) < n := by omega
      obtain ⟨b, off, rfl, hc⟩ := H.out.2.2.2.resolve_left (by omega)
      have cz := hc j hlt
      clear hc
      obtain ⟨z, hz⟩ : ∃ z, z = zs.getD j 0 := ⟨_, rfl⟩
      rw [← hz] at cz
      have HZ : Hid (z = zs.getD j 0 ∧ j < n) := ⟨hz, hlt⟩
      clear hz hlt
      go_wp2_with fail
      refine (order_of z G wr).mono ?_
      rintro e wr ⟨rfl, rfl⟩
      by_cases hp : 0 < ordI z G
      · go_wp2
        go_roundw
        case rel => exact ⟨j + 1, j, z, by have := HZ.out.2; omega, by go_num, rfl, rfl, by rw [HZ.out.1]; exact HS.out.1.up (by rw [← HZ.out.1]; exact hp), trivial⟩
        case measure => have := HZ.out.2; simp [intOf]; omega
      · have hp' : ordI z G ≤ 0 := by omega
        have HP : Hid (¬ 0 < ordI z G) := hp
        clear hp
        go_wp2
        go_roundw
        case rel => exact ⟨j + 1, B, G, by have := HZ.out.2; omega, by go_num, rfl, rfl, HS.out.1.stay (by rw [← HZ.out.1]; omega), trivial⟩
        case measure => have := HZ.out.2; simp [intOf]; omega
    · have hge : (n : Int) ≤ j := by omega
      have HE : Hid (j = n) := by have := HS.out.2; show j = n; omega
      clear hlt
      go_wp2
      go_ret
      exact ⟨B, rfl, by rw [← HE.out]; exact HS.out.1.1, rfl⟩

/-- Those that are numbers; their sum, one behind the other; their mean. -/
def numsL (zs : List Nat) : List Nat := zs.filter fun z => !decide (Nan z)
def sumL (L : List Nat) : Option Nat := L.foldl (fun c z => bop .add c (some z)) (some 0)
def meanC (zs : List Nat) : Option Nat := bop .quo (sumL (numsL zs)) (some (cv (numsL zs).length))
theorem nums_next {zs : List Nat} {j : Nat} (h : j < zs.length) : numsL (zs.take (j + 1)) = numsL (zs.take j) ++ (if Nan (zs.getD j 0) then [] else [zs.getD j 0]) := by
  have e : zs.take (j + 1) = zs.take j ++ [zs.getD j 0] := by
    rw [List.take_add_one]
    simp [List.getD, h]
  rw [e]
  unfold numsL
  rw [List.filter_append]
  congr 1
  generalize zs.getD j 0 = z
  by_cases g : Nan z
  · rw [if_pos g]; simp [g]
  · rw [if_neg g]; simp [g]
theorem sum_snoc (L : List Nat) (z : Nat) : sumL (L ++ [z]) = bop .add (sumL L) (some z) := by
  unfold sumL; rw [List.foldl_append]; rfl
theorem nums_len (zs : List Nat) : (numsL zs).length ≤ zs.length := List.length_filter_le _ _
theorem kind_one (z : Nat) : kindI z = 1 ↔ Nan z := by
  unfold kindI
  by_cases h : Nan z
  · rw [if_pos h]; simp [h]
  · rw [if_neg h]
    simp only [h, iff_false]
    split
    · split <;> decide
    · split
      · split <;> decide
      · split <;> decide

set_option maxHeartbeats 1000000 in
theorem mean_of (a : Option Addr) (n c : Nat) (zs : List Nat) (w : World) (hin : FIn w a n zs) (hn : n ≤ 1000000) :
    Calls Try.prog 21 #[.slice a n c] w fun e w' => ∃ x, e = .returned (.float .f64 x) ∧ Cls (meanC zs) x ∧ Drawn w w' := by
  have fq := fun (x y : Nat) (W : World) => run_float (P := Try.prog) .quo (by simp) 22 x y W
  have fa := fun (x y : Nat) (W : World) => run_float (P := Try.prog) .add (by simp) 22 x y W
  have H : Hid (FIn w a n zs) := hin
  clear hin
  go_enter Try.func21, Try.ntmps21
  go_wp2
  go_loopw [3, 4, 9] (fun s k i wr => ∃ (j S : Nat), j ≤ n ∧ i = .int .i64 j ∧ s = .float .f64 S ∧ k = .int .u64 ((numsL (zs.take j)).length : Nat) ∧ Cls (sumL (numsL (zs.take j))) S ∧ Drawn w wr)
    (fun _ _ i _ => n - (intOf i).toNat)
  case atStart => exact ⟨0, 0, by omega, rfl, rfl, rfl, cls_num 0 (by decide) (by decide), Drawn.refl w⟩
  case round =>
    obtain ⟨j, S, hj, rfl, rfl, rfl, hS, dr⟩ := hrel
    obtain ⟨C, hC⟩ : ∃ C, C = (numsL (zs.take j)).length := ⟨_, rfl⟩
    rw [← hC]
    have hCb : C ≤ 1000000 := by
      have := nums_len (zs.take j)
      rw [List.length_take] at this
      omega
    have HS : Hid (Cls (sumL (numsL (zs.take j))) S ∧ Drawn w wr ∧ j ≤ n ∧ C = (numsL (zs.take j)).length) := ⟨hS, dr, hj, hC⟩
    clear hS dr hj hC
    by_cases hlt : j < n
    · have hlt' : (j : Int) < n := by omega
      obtain ⟨b, off, rfl, hc⟩ := (H.out.drawn HS.out.2.1).2.2.2.resolve_left (by omega)
      have cz := hc j hlt
      clear hc
      obtain ⟨z, hz⟩ : ∃ z, z = zs.getD j 0 := ⟨_, rfl⟩
      rw [← hz] at cz
      have HZ : Hid (z = zs.getD j 0 ∧ j < n ∧ z < 2 ^ 64) := ⟨hz, hlt, by rw [hz]; exact fits_at H.out.2.2.1 j⟩
      clear hz hlt
      go_wp2_with fail
      refine (kind_of z HZ.out.2.2 wr).mono ?_
      rintro e wr ⟨rfl, rfl⟩
      have nx := nums_next (zs := zs) (j := j) (by rw [H.out.1]; exact HZ.out.2.1)
      rw [← HZ.out.1] at nx
      by_cases hn : Nan z
      · have hk : kindI z = 1 := (kind_one z).2 hn
        rw [if_pos hn, List.append_nil] at nx
        have HX : Hid (numsL (zs.take (j + 1)) = numsL (zs.take j)) := nx
        clear nx hn
        go_wp2
        go_roundw
        case rel => exact ⟨j + 1, S, by have := HZ.out.2.1; omega, by go_num, rfl, by rw [HX.out, HS.out.2.2.2], by rw [HX.out]; exact HS.out.1, HS.out.2.1⟩
        case measure => have := HZ.out.2.1; simp [intOf]; omega
      · have hk : ¬ kindI z = 1 := fun h => hn ((kind_one z).1 h)
        rw [if_neg hn] at nx
        have HX : Hid (numsL (zs.take (j + 1)) = numsL (zs.take j) ++ [z]) := nx
        have HN : Hid (¬ Nan z) := hn
        clear nx hn
        go_wp2
        go_roundw
        case rel =>
          refine ⟨j + 1, _, by have := HZ.out.2.1; omega, by go_num, rfl, ?_, ?_, HS.out.2.1.trans (fwld_drawn _ _ _ _)⟩
          · rw [HX.out, List.length_append, ← HS.out.2.2.2]; rfl
          · rw [HX.out, sum_snoc]
            exact fres_bop .add HS.out.1 (cls_num z HN.out HZ.out.2.2) _
        case measure => have := HZ.out.2.1; simp [intOf]; omega
    · have hge : (n : Int) ≤ j := by omega
      have HE : Hid (zs.take j = zs) := by
        show zs.take j = zs
        exact List.take_of_length_le (by rw [H.out.1]; omega)
      clear hlt
      have cc := ofInt_cv C
      go_wp2
      go_ret
      refine ⟨_, rfl, ?_, HS.out.2.1.trans (fwld_drawn _ _ _ _)⟩
      have h1 := HS.out.1
      have h2 := HS.out.2.2.2
      rw [HE.out] at h1 h2
      unfold meanC
      rw [← h2]
      exact fres_bop .quo h1 (cls_cv C) _

end Go.Proofs.Ytilhhgkplonipaa
