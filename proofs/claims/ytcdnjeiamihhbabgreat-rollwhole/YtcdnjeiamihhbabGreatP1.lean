/- P1 -/
import Derived.WalkKit
import Derived.Below
import Derived.WalkSmall
import Derived.Deep.MidRow
import Derived.Deep.Upon
import Derived.Laws.CopyOwn
import Derived.OpenShut
import Derived.Lib.SlBytesConst
import Derived.Deep.Cut
import Derived.Laws.AppendOwnNone
import Derived.Laws.BytesArg
import Derived.Lib.Bytes
import Derived.Lib.LazyBuf
import Derived.Test.YtcdnjeiamihhbabGreatProg
import Derived.Laws.BitsAllLaws
set_option linter.unusedVariables false
set_option maxRecDepth 4000
namespace Go.Proofs.YtcdnjeiamihhbabGreat
open Go.RowKit
def Fits8 (a : Int) : Prop := 0 ≤ a ∧ a < 256
def u8s (S : List Int) : List Value := S.map (Value.int .u8)
theorem u8s_length (L : List Int) : (u8s L).length = L.length := by simp [u8s]
theorem u8s_one (L : List Int) : ∀ v ∈ u8s L, v.oneCell' = true := by intro v hv; simp [u8s] at hv; obtain ⟨z, _, rfl⟩ := hv; rfl
theorem old_block {w : World} {a : Addr} {v : Value} (h : w.cell? a = some v) : a.block < w.heap.size := by
 rcases Nat.lt_or_ge a.block w.heap.size with h' | h'
 ·exact h'
 ·simp [World.cell?, Array.getElem?_eq_none h'] at h
theorem Tryz.zero_u8 : (Tryz.prog.info? 5).map (fun i => (i.zero, i.size, i.bytes)) = some (some (.int .u8 0), 1, 1) := by kernel_rfl
/-- A list of bytes that lies in the world. -/
def BIn (w : World) (a : Option Addr) (len : Nat) (zs : List Int) : Prop :=
 zs.length = len ∧ len ≤ maxLen ∧ (∀ z ∈ zs, Fits8 z) ∧
 (len = 0 ∨ ∃ b off, a = some ⟨b, off, none⟩ ∧ ∀ i, i < len → w.cell? ⟨b, off + i, none⟩ = some (.int .u8 (zs.getD i 0)))
theorem BIn.below {w w' : World} {a : Option Addr} {len : Nat} {zs : List Int} (h : BIn w a len zs) (hb : Below w.heap.size w w') : BIn w' a len zs := by
 obtain ⟨h1, h2, h3, h4⟩ := h
 refine ⟨h1, h2, h3, ?_⟩
 rcases h4 with h4 | ⟨b, off, ha, hc⟩
 ·exact .inl h4
 ·exact .inr ⟨b, off, ha, fun i hi => by rw [hb.cell (old_block (hc i hi))]; exact hc i hi⟩
theorem bin_none (w : World) : BIn w none 0 [] := ⟨rfl, Nat.zero_le _, by simp, .inl rfl⟩
theorem new_bin {w : World} {k n : Nat} {L : List Int} {C : Array Value} {fr : Nat × Nat} (hk : w.heap.size = k) (hC : C = (u8s L).toArray) (hn : L.length = n) (hf : ∀ z ∈ L, Fits8 z) (hm : n ≤ maxLen) :
  BIn (w.alloc (.cells C 5 fr)) (some ⟨k, 0, none⟩) n L := by
 subst hk; subst hC; subst hn
 refine ⟨rfl, hm, hf, .inr ⟨_, 0, rfl, fun i hi => ?_⟩⟩
 rw [Nat.zero_add, World.cell?_alloc_mark]
 simp [u8s, List.getD, hi]
theorem BIn.alloc {w : World} {a : Option Addr} {len : Nat} {zs : List Int} (h : BIn w a len zs) (o : Obj) : BIn (w.alloc o) a len zs := h.below ((Below.refl _ _).alloc (Nat.le_refl _) o)
theorem byte_fits {B : List Int} (h : ∀ z ∈ B, Fits8 z) (i : Nat) : Fits8 (B.getD i 0) := by
 by_cases hi : i < B.length
 ·have : B.getD i 0 = B[i] := by simp [List.getD, hi]
  rw [this]; exact h _ (List.getElem_mem hi)
 ·have : B.getD i 0 = 0 := by simp [List.getD, List.getElem?_eq_none (by omega : B.length ≤ i)]
  rw [this]; unfold Fits8; omega
/-- What a call owns lies in the world. -/
theorem own_bin {w : World} {base : Nat} {a : Option Addr} {n c : Nat} {zs : List Int} (h : w.ownsRow base 5 1 (.slice a n c) n (u8s zs)) (hm : n ≤ maxLen) (hz : ∀ z ∈ zs, Fits8 z) :
  BIn w a n zs := by
 have hl : zs.length = n := by have := h.1; simp [u8s] at this; omega
 refine ⟨hl, hm, hz, ?_⟩
 rcases h.2 with ⟨hv, hn⟩ | ⟨g, cap, cur, hv, hb, hg, hc, hcm, hsz, htake⟩
 ·exact .inl hn
 ·cases hv
  refine .inr ⟨g, 0, rfl, fun i hi => ?_⟩
  have hcl := h.cells (g := g) rfl i (.int .u8 (zs.getD i 0)) (by simp [u8s, List.getD, hl, hi])
  rw [Addr.add_mid] at hcl
  exact hcl
theorem own_nil {w : World} {base : Nat} {a : Option Addr} {n c : Nat} {zs : List Value} (h : w.ownsRow base 5 1 (.slice a n c) n zs) : a = none → n = 0 ∧ c = 0 := by
 rintro rfl
 rcases h.2 with ⟨hv, hn⟩ | ⟨g, cap, cur, hv, _⟩
 ·cases hv; exact ⟨rfl, rfl⟩
 ·cases hv
theorem wpList_append_bin {ops : Array Oper} {rest : List Oper} {o : Oper} {a : Act} {Q : Exit → Act → World → Prop} {w : World} (hgd : o.guard = none) (s x : Operand)
  (ho : o.op = .call { callee := .builtin .append, args := #[s, x], argTypes := #[51, 51] }) (base : Nat)
  (a0 : Option Addr) (n0 c0 : Nat) (xs : List Int) (hs : a.eval s = .slice a0 n0 c0) (hown : w.ownsRow base 5 1 (.slice a0 n0 c0) n0 (u8s xs))
  (a1 : Option Addr) (n1 c1 : Nat) (zs : List Int) (hx : a.eval x = .slice a1 n1 c1) (hin : BIn w a1 n1 zs) (hnil : a1 = none → n1 = 0 ∧ c1 = 0)
  (hle : n0 + n1 ≤ 1000000) (hbase : base ≤ w.heap.size)
  (h : ∀ a' c' w', w'.ownsRow base 5 1 (.slice a' (n0 + n1) c') (n0 + n1) (u8s (xs ++ zs)) → Below base w w' → wpList Tryz.prog ops Q rest (a.put o.dst (.slice a' (n0 + n1) c')) w') :
  wpList Tryz.prog ops Q (o :: rest) a w := by
 obtain ⟨i0, hi, hz0, hz1, hz2⟩ := info_parts Tryz.zero_u8
 obtain ⟨hl, hm, hfit, hcell⟩ := hin
 cases a1 with
 | none =>
  obtain ⟨rfl, rfl⟩ := hnil rfl
  have : zs = [] := List.length_eq_zero_iff.1 hl
  subst this
  refine wpList_append_own_none hgd s x 51 ho base 5 i0 1 Tryz.underlying51 hi _ n0 (u8s xs) hs hown hx ?_
  have := h a0 c0 w (by simpa using hown) (Below.refl _ _)
  simpa using this
 | some ad =>
  refine wpList_append_own w hgd s x 51 ho base 5 i0 (.int .u8 0) 1 1 Tryz.underlying51 hi hz0 hz1 hz2 rfl (by decide) _ n0 (u8s xs) hs hown ad n1 c1 (u8s zs) hx (by simp [u8s, hl]) ?_ (u8s_one _) (by unfold maxLen; omega) (by omega) hbase ?_
  ·intro j u hj
   have hjl : j < n1 := by
    have := (List.getElem?_eq_some_iff.1 hj).1
    rwa [u8s_length, hl] at this
   rcases hcell with hc | ⟨b, off, ha, hc⟩
   ·omega
   ·cases ha
    rw [Addr.add_mid, hc j hjl, ← hj]
    simp [u8s, List.getD, hl, hjl]
  ·intro v' w' hown' hgrow _
   have hb : Below base w w' := (Below.refl base w).grown hgrow hbase (fun k hk => (hown.lt k hk).1)
   have hcat : u8s xs ++ u8s zs = u8s (xs ++ zs) := by simp [u8s]
   rw [hcat] at hown'
   obtain ⟨a', c', rfl⟩ : ∃ a' c', v' = .slice a' (n0 + n1) c' := by
    rcases hown'.2 with ⟨hv, hn⟩ | ⟨g, cap, cur, hv, _⟩
    ·exact ⟨none, 0, by rw [hv, hn]⟩
    ·exact ⟨_, _, hv⟩
   exact h a' c' w' hown' hb
theorem str_of (w : World) (a : Option Addr) (n c : Nat) (zs : List Int) (h : BIn w a n zs) : (convert 51 9 (.slice a n c)).run Tryz.prog w = .ok (.string (strOfNums zs)) w := by
 obtain ⟨hl, _, _, hc⟩ := h
 by_cases h0 : n = 0
 ·subst h0
  obtain rfl := List.length_eq_zero_iff.1 hl
  cases a with
  | none => exact run_convert_bytes_nil w 51 5 Tryz.underlying51 Tryz.underlying5 0 c 9 Tryz.underlying9
  | some ad =>
   have hl : (loadCells ad 0).run Tryz.prog w = .ok (([] : List Int).map (Value.int .u8)).toArray w := by simp [loadCells, loadCellsFrom]
   rw [run_convert_bytes_string w 51 9 5 _ 0 c Tryz.underlying51 Tryz.underlying5 Tryz.underlying9, run_bytesToString w _ 0 c [] hl, foldl_push_bytes]
   rfl
 ·obtain ⟨b, off, rfl, hcell⟩ := hc.resolve_left h0
  exact run_convert_bytes_arg w 51 5 Tryz.underlying51 Tryz.underlying5 b off n c zs hl hcell 9 Tryz.underlying9
/-- The lowest k bytes of a number, the highest first. -/
def bigI (k : Nat) (v : Int) : List Int := (List.range k).map fun j => v / 2 ^ (8 * (k - 1 - j)) % 256
theorem bigI_length (k : Nat) (v : Int) : (bigI k v).length = k := by simp [bigI]
theorem bigI_fits (k : Nat) (v : Int) : ∀ z ∈ bigI k v, Fits8 z := by
 intro z hz
 simp only [bigI, List.mem_map] at hz
 obtain ⟨j, _, rfl⟩ := hz
 unfold Fits8
 omega
/-- The number whose bytes these are. -/
def numI (bs : List Int) : Int := bs.foldl (fun n x => n * 256 + x) 0
theorem numI_snoc (bs : List Int) (x : Int) : numI (bs ++ [x]) = numI bs * 256 + x := by simp [numI]
theorem bigI_succ (k : Nat) (v : Int) : bigI (k + 1) v = bigI k (v / 256) ++ [v % 256] := by
 unfold bigI
 rw [List.range_succ, List.map_append]
 congr 1
 ·apply List.map_congr_left
  intro j hj
  have hj' := List.mem_range.1 hj
  have e : 8 * (k + 1 - 1 - j) = 8 + 8 * (k - 1 - j) := by omega
  rw [e, Int.pow_add, Int.ediv_ediv_of_nonneg (by decide)]
  rfl
 ·simp
theorem big_take (k : Nat) (v : Int) {j : Nat} (hj : j < k) : (bigI k v).take j ++ [v / 2 ^ (8 * (k - 1 - j)) % 256] = (bigI k v).take (j + 1) := by
 have hl : j < (bigI k v).length := by rw [bigI_length]; exact hj
 rw [List.take_succ_eq_append_getElem hl]
 simp [bigI]
/-- A number's bytes are the number, modulo what they hold. -/
theorem numI_big (k : Nat) : ∀ v : Int, 0 ≤ v → numI (bigI k v) = v % 256 ^ k := by
 induction k with
 | zero => intro v h0; rw [Int.pow_zero, Int.emod_one]; rfl
 | succ k ih =>
  intro v h0
  have e : (256 : Int) ^ (k + 1) = 256 * 256 ^ k := by rw [Int.pow_succ, Int.mul_comm]
  have hp : (0 : Int) < 256 ^ k := Int.pow_pos (by decide)
  rw [bigI_succ, numI_snoc, ih (v / 256) (by omega), e]
  generalize (256 : Int) ^ k = M at hp
  have e1 : v = 256 * (v / 256) + v % 256 := by omega
  have e2 := Int.mul_ediv_add_emod (v / 256) M
  have r0 := Int.emod_nonneg (v / 256) (Int.ne_of_gt hp)
  have r1 := Int.emod_lt_of_pos (v / 256) hp
  have e3 : v = (v / 256 % M * 256 + v % 256) + 256 * M * (v / 256 / M) := by
   have : 256 * M * (v / 256 / M) = 256 * (M * (v / 256 / M)) := Int.mul_assoc _ _ _
   omega
  conv => rhs; rw [e3]
  rw [Int.add_mul_emod_self_left]
  exact (Int.emod_eq_of_lt (by omega) (by omega)).symm
theorem numI_range : ∀ (n : Nat) (bs : List Int), bs.length = n → (∀ z ∈ bs, Fits8 z) → 0 ≤ numI bs ∧ numI bs < 256 ^ n := by
 intro n
 induction n with
 | zero => intro bs h _; obtain rfl := List.length_eq_zero_iff.1 h; exact ⟨Int.le_refl _, by decide⟩
 | succ n ih =>
  intro bs h hf
  obtain ⟨cs, x, rfl⟩ : ∃ cs x, bs = cs ++ [x] := by
   exact ⟨bs.dropLast, bs.getLast (by intro e; subst e; simp at h), (List.dropLast_concat_getLast _).symm⟩
  have hx := hf x (by simp)
  unfold Fits8 at hx
  obtain ⟨i0, i1⟩ := ih cs (by simpa using h) (fun z hz => hf z (by simp [hz]))
  have e : (256 : Int) ^ (n + 1) = 256 ^ n * 256 := Int.pow_succ _ _
  rw [numI_snoc]
  exact ⟨by omega, by rw [e]; omega⟩
/-- How many bytes a number of some width has. -/
def wd (x : Int) : Nat := if x = 1 then 1 else if x = 2 then 2 else if x = 4 then 4 else 8
theorem wd_le (x : Int) : wd x ≤ 8 := by unfold wd; split <;> (try split) <;> (try split) <;> omega
theorem wd_pos (x : Int) : 1 ≤ wd x := by unfold wd; split <;> (try split) <;> (try split) <;> omega
/-- How many bytes numbers of these widths have together. -/
def offL : List Int → Nat
 | [] => 0
 | x :: ws => wd x + offL ws
theorem offL_append (a b : List Int) : offL (a ++ b) = offL a + offL b := by
 induction a with
 | nil => simp [offL]
 | cons x a ih => simp [offL, ih]; omega
theorem offL_snoc (a : List Int) (x : Int) : offL (a ++ [x]) = offL a + wd x := by rw [offL_append]; simp [offL]
theorem offL_le (a : List Int) : offL a ≤ 8 * a.length := by
 induction a with
 | nil => simp [offL]
 | cons x a ih => have := wd_le x; simp [offL]; omega
theorem offL_take (ws : List Int) (i : Nat) : offL (ws.take i) ≤ offL ws := by
 have : offL ws = offL (ws.take i) + offL (ws.drop i) := by rw [← offL_append, List.take_append_drop]
 omega
theorem take_next (ws : List Int) {i : Nat} (h : i < ws.length) : ws.take (i + 1) = ws.take i ++ [ws.getD i 0] := by
 rw [List.take_succ_eq_append_getElem h]
 simp [List.getD, h]
/-- The numbers at the front. -/
def valL : List Int → List Int → List Int
 | _, [] => []
 | xs, x :: ws => numI (xs.take (wd x)) :: valL (xs.drop (wd x)) ws
theorem valL_append (a b : List Int) : ∀ xs, valL xs (a ++ b) = valL xs a ++ valL (xs.drop (offL a)) b := by
 induction a with
 | nil => intro xs; simp [valL, offL]
 | cons x a ih => intro xs; simp [valL, offL, ih, List.drop_drop]
theorem valL_snoc (a : List Int) (x : Int) (xs : List Int) : valL xs (a ++ [x]) = valL xs a ++ [numI ((xs.drop (offL a)).take (wd x))] := by rw [valL_append]; simp [valL]
theorem numI_small {bs : List Int} {n : Nat} (hl : bs.length ≤ n) (hf : ∀ z ∈ bs, Fits8 z) : 0 ≤ numI bs ∧ numI bs < 256 ^ n := by
 obtain ⟨h0, h1⟩ := numI_range bs.length bs rfl hf
 refine ⟨h0, Int.lt_of_lt_of_le h1 ?_⟩
 exact_mod_cast Nat.pow_le_pow_right (n := 256) (by decide) hl
def FitsU (z : Int) : Prop := 0 ≤ z ∧ z < 18446744073709551616
theorem numI_u64 {bs : List Int} (hl : bs.length ≤ 8) (hf : ∀ z ∈ bs, Fits8 z) : FitsU (numI bs) := numI_small hl hf
/-- Numbers as bytes. -/
def packL : List Int → List Int → List Int
 | x :: ws, v :: vs => bigI (wd x) v ++ packL ws vs
 | _, _ => []
theorem packL_nil (vs : List Int) : packL [] vs = [] := by cases vs <;> rfl
theorem packL_nil' (ws : List Int) : packL ws [] = [] := by cases ws <;> rfl
theorem packL_append : ∀ (a c b d : List Int), a.length = c.length → packL (a ++ b) (c ++ d) = packL a c ++ packL b d := by
 intro a
 induction a with
 | nil => intro c b d h; have : c = [] := List.length_eq_zero_iff.1 (by simpa using h.symm)
          subst this; simp [packL]
 | cons x a ih =>
  intro c b d h
  cases c with
  | nil => simp at h
  | cons v c => simp only [List.cons_append, packL]; rw [ih c b d (by simpa using h), List.append_assoc]
theorem packL_snoc (a c : List Int) (x v : Int) (h : a.length = c.length) : packL (a ++ [x]) (c ++ [v]) = packL a c ++ bigI (wd x) v := by
 rw [packL_append a c _ _ h]; simp [packL]
theorem packL_fits : ∀ (a c : List Int), ∀ z ∈ packL a c, Fits8 z := by
 intro a
 induction a with
 | nil => intro c z hz; rw [packL_nil] at hz; simp at hz
 | cons x a ih =>
  intro c z hz
  cases c with
  | nil => simp [packL] at hz
  | cons v c =>
   simp only [packL, List.mem_append] at hz
   rcases hz with hz | hz
   ·exact bigI_fits _ _ z hz
   ·exact ih c z hz
theorem packL_length : ∀ (a c : List Int), a.length ≤ c.length → (packL a c).length = offL a := by
 intro a
 induction a with
 | nil => intro c h; rw [packL_nil]; rfl
 | cons x a ih =>
  intro c h
  cases c with
  | nil => simp at h
  | cons v c => simp only [packL, offL, List.length_append, bigI_length]; rw [ih c (by simpa using h)]
/-- Only what both lists have counts. -/
theorem packL_take : ∀ (a c : List Int) (n : Nat), n = min a.length c.length → packL (a.take n) (c.take n) = packL a c := by
 intro a
 induction a with
 | nil => intro c n h; simp [packL_nil]
 | cons x a ih =>
  intro c n h
  cases c with
  | nil => simp [packL_nil', packL]
  | cons v c =>
   obtain ⟨m, rfl⟩ : ∃ m, n = m + 1 := ⟨n - 1, by simp at h; omega⟩
   simp only [List.take_succ_cons, packL]
   rw [ih c m (by simp at h; omega)]
end Go.Proofs.YtcdnjeiamihhbabGreat
namespace Go.Proofs.YtcdnjeiamihhbabGreat
open Go
/-! ### The words as the walk spells them -/
def crH (c : Int) : Int := if (bits .and .u32 c 1 == 1) = true then bits .xor .u32 (c / 2) 3988292384 else c / 2
def crIter : Nat → Int → Int
 | 0, c => c
 | n + 1, c => crH (crIter n c)
def crS (s b : Int) : Int := bits .xor .u32 (bits .xor .u32 IntKind.u32.max s) b
def crN (s b : Int) : Int := bits .xor .u32 IntKind.u32.max (crIter 8 (crS s b))
def crI (s : Int) (zs : List Int) : Int := zs.foldl crN s
/-! ### The same over words of 32 bits -/
def crHB (c : BitVec 32) : BitVec 32 := if c.getLsbD 0 = true then (c >>> 1) ^^^ 3988292384#32 else c >>> 1
def crIterB : Nat → BitVec 32 → BitVec 32
 | 0, c => c
 | n + 1, c => crHB (crIterB n c)
def crNB (s : BitVec 32) (b : BitVec 8) : BitVec 32 := 4294967295#32 ^^^ crIterB 8 ((4294967295#32 ^^^ s) ^^^ b.setWidth 32)
/-! ### From the walk's words to words of bits -/
theorem cxor_word (a b : BitVec 32) : bits .xor .u32 (a.toNat : Int) (b.toNat : Int) = ((a ^^^ b).toNat : Int) := by
 rw [u32_xor_nat a.toNat b.toNat a.isLt b.isLt]; simp
theorem crH_word (c : BitVec 32) : crH (c.toNat : Int) = ((crHB c).toNat : Int) := by
 unfold crH crHB
 have h1 : bits .and .u32 (c.toNat : Int) 1 = ((c.toNat % 2 : Nat) : Int) := by
  have := u32_and_nat c.toNat 1 c.isLt (by omega)
  rw [nat_mask1] at this
  exact this
 have h2 : (c.getLsbD 0 = true) ↔ c.toNat % 2 = 1 := by
  simp [BitVec.getLsbD, Nat.testBit]
 have h3 : (c.toNat : Int) / (2 : Int) = ((c >>> 1).toNat : Int) := by
  rw [BitVec.toNat_ushiftRight, Nat.shiftRight_eq_div_pow]; rfl
 have h4 : (3988292384 : Int) = ((3988292384#32).toNat : Int) := by decide
 rw [h1]
 by_cases h : c.toNat % 2 = 1
 ·rw [if_pos (h2.2 h), if_pos (by rw [h]; rfl), h3, h4, cxor_word]
 ·rw [if_neg (fun e => h (h2.1 e)), if_neg (by have : c.toNat % 2 = 0 := by omega
                                               rw [this]; decide), h3]
theorem crIter_word (n : Nat) (c : BitVec 32) : crIter n (c.toNat : Int) = ((crIterB n c).toNat : Int) := by
 induction n with
 | zero => rfl
 | succ n ih => show crH (crIter n _) = _; rw [ih, crH_word]; rfl
theorem crS_word (s : BitVec 32) (b : BitVec 8) : crS (s.toNat : Int) (b.toNat : Int) = (((4294967295#32 ^^^ s) ^^^ b.setWidth 32).toNat : Int) := by
 unfold crS
 have h1 : (IntKind.u32.max : Int) = ((4294967295#32).toNat : Int) := by decide
 have h2 : (b.toNat : Int) = ((b.setWidth 32).toNat : Int) := by
  have := b.isLt
  simp
  omega
 rw [h1, cxor_word, h2, cxor_word]
theorem crN_word (s : BitVec 32) (b : BitVec 8) : crN (s.toNat : Int) (b.toNat : Int) = ((crNB s b).toNat : Int) := by
 unfold crN crNB
 have h1 : (IntKind.u32.max : Int) = ((4294967295#32).toNat : Int) := by decide
 rw [crS_word, crIter_word, h1, cxor_word]
/-! ### Numbers that fit are words -/
theorem cword_of {a : Int} (h0 : 0 ≤ a) (h1 : a < 4294967296) : ∃ v : BitVec 32, a = (v.toNat : Int) :=
 ⟨BitVec.ofNat 32 a.toNat, by simp; omega⟩
theorem cbyte_of {a : Int} (h0 : 0 ≤ a) (h1 : a < 256) : ∃ v : BitVec 8, a = (v.toNat : Int) :=
 ⟨BitVec.ofNat 8 a.toNat, by simp; omega⟩
def Fits32 (a : Int) : Prop := 0 ≤ a ∧ a < 4294967296
theorem fits_word (v : BitVec 32) : Fits32 (v.toNat : Int) := ⟨by omega, by have := v.isLt; omega⟩
theorem crIter_fits {c : Int} (n : Nat) (h : Fits32 c) : Fits32 (crIter n c) := by
 obtain ⟨v, rfl⟩ := cword_of h.1 h.2
 rw [crIter_word]; exact fits_word _
theorem crS_fits {s b : Int} (h : Fits32 s) (hb : Fits8 b) : Fits32 (crS s b) := by
 obtain ⟨v, rfl⟩ := cword_of h.1 h.2
 obtain ⟨u, rfl⟩ := cbyte_of hb.1 hb.2
 rw [crS_word]; exact fits_word _
theorem crN_fits {s b : Int} (h : Fits32 s) (hb : Fits8 b) : Fits32 (crN s b) := by
 obtain ⟨v, rfl⟩ := cword_of h.1 h.2
 obtain ⟨u, rfl⟩ := cbyte_of hb.1 hb.2
 rw [crN_word]; exact fits_word _
theorem crI_fits {s : Int} {zs : List Int} (h : Fits32 s) (hz : ∀ z ∈ zs, Fits8 z) : Fits32 (crI s zs) := by
 induction zs generalizing s with
 | nil => exact h
 | cons z zs ih => exact ih (crN_fits h (hz z (by simp))) (fun y hy => hz y (by simp [hy]))
theorem crI_snoc (s : Int) (zs : List Int) (z : Int) : crI s (zs ++ [z]) = crN (crI s zs) z := by
 simp [crI]
theorem crI_append (s : Int) (xs ys : List Int) : crI s (xs ++ ys) = crI (crI s xs) ys := by
 simp [crI]
end Go.Proofs.YtcdnjeiamihhbabGreat
