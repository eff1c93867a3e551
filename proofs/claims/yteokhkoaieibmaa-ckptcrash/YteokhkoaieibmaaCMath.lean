/- Plain mathematics of the check sum: one step of eight halvings can be undone, so it tells bytes and sums apart; no Go text in sight. -/
import Derived.Laws.BitsAllLaws
import Derived.Test.YteokhkoaieibmaaSpBase
namespace Go.Proofs.Yteokhkoaieibmaa
open Go
set_option linter.unusedVariables false
set_option maxRecDepth 4000

/-! ### The words as the walk spells them -/
def crH (c : Int) : Int := if (bits .and .u32 c 1 == 1) = true then bits .xor .u32 (c / 2) 3988292384 else c / 2
def crIter : Nat → Int → Int
  | 0, c => c
  | n + 1, c => crH (crIter n c)
def crS (s b : Int) : Int := bits .xor .u32 (bits .xor .u32 IntKind.u32.max s) b
def crN (s b : Int) : Int := bits .xor .u32 IntKind.u32.max (crIter 8 (crS s b))
def crI (s : Int) (zs : List Int) : Int := zs.foldl crN s

/-! ### The same over words of 32 bits -/
def crHB (c : BitVec 32) : BitVec 32 := if c.getLsbD 0 = true then (c >>> 1) ^^^ 3988292384#32 else c >>> 1
def crIterB : Nat → BitVec 32 → BitVec 32
  | 0, c => c
  | n + 1, c => crHB (crIterB n c)
def crNB (s : BitVec 32) (b : BitVec 8) : BitVec 32 := 4294967295#32 ^^^ crIterB 8 ((4294967295#32 ^^^ s) ^^^ b.setWidth 32)

theorem crHB_bit (c : BitVec 32) (i : Nat) : (crHB c).getLsbD i = (c.getLsbD (i + 1) ^^ (c.getLsbD 0 && (3988292384#32).getLsbD i)) := by
  unfold crHB
  cases h : c.getLsbD 0
  · rw [if_neg (by decide), BitVec.getLsbD_ushiftRight, Nat.add_comm, Bool.false_and, Bool.xor_false]
  · rw [if_pos rfl, BitVec.getLsbD_xor, BitVec.getLsbD_ushiftRight, Nat.add_comm, Bool.true_and]

theorem crHB_inj {c d : BitVec 32} (h : crHB c = crHB d) : c = d := by
  have hb : ∀ i, (crHB c).getLsbD i = (crHB d).getLsbD i := fun i => by rw [h]
  have h0 : c.getLsbD 0 = d.getLsbD 0 := by
    have := hb 31
    rw [crHB_bit, crHB_bit] at this
    have e : (3988292384#32).getLsbD 31 = true := by decide
    rw [e, BitVec.getLsbD_of_ge c 32 (by omega), BitVec.getLsbD_of_ge d 32 (by omega)] at this
    simpa using this
  apply BitVec.eq_of_getLsbD_eq
  intro i hi
  match i with
  | 0 => exact h0
  | i + 1 =>
    have := hb i
    rw [crHB_bit, crHB_bit, h0] at this
    simpa using this

theorem crIterB_inj {n : Nat} {c d : BitVec 32} (h : crIterB n c = crIterB n d) : c = d := by
  induction n with
  | zero => exact h
  | succ n ih => exact ih (crHB_inj h)

theorem cxor_inj {w : Nat} {k c d : BitVec w} (h : k ^^^ c = k ^^^ d) : c = d := by
  have := congrArg (k ^^^ ·) h
  simpa [← BitVec.xor_assoc] using this

theorem crNB_inj_sum {s t : BitVec 32} {b : BitVec 8} (h : crNB s b = crNB t b) : s = t := by
  have h1 := crIterB_inj (cxor_inj h)
  rw [BitVec.xor_comm _ (b.setWidth 32), BitVec.xor_comm _ (b.setWidth 32)] at h1
  exact cxor_inj (cxor_inj h1)

theorem crNB_inj_byte {s : BitVec 32} {b c : BitVec 8} (h : crNB s b = crNB s c) : b = c := by
  have h1 := cxor_inj (crIterB_inj (cxor_inj h))
  have h2 := congrArg BitVec.toNat h1
  simp at h2
  have := b.isLt
  have := c.isLt
  apply BitVec.eq_of_toNat_eq
  omega

/-! ### From the walk's words to words of bits -/
theorem max_u32 : IntKind.u32.max = 4294967295 := by decide

theorem cxor_word (a b : BitVec 32) : bits .xor .u32 (a.toNat : Int) (b.toNat : Int) = ((a ^^^ b).toNat : Int) := by
  rw [u32_xor_nat a.toNat b.toNat a.isLt b.isLt]; simp

theorem crH_word (c : BitVec 32) : crH (c.toNat : Int) = ((crHB c).toNat : Int) := by
  unfold crH crHB
  have h1 : bits .and .u32 (c.toNat : Int) 1 = ((c.toNat % 2 : Nat) : Int) := by
    have := u32_and_nat c.toNat 1 c.isLt (by omega)
    rw [nat_mask1] at this
    exact this
  have h2 : (c.getLsbD 0 = true) ↔ c.toNat % 2 = 1 := by
    simp [BitVec.getLsbD, Nat.testBit]
  have h3 : (c.toNat : Int) / (2 : Int) = ((c >>> 1).toNat : Int) := by
    rw [BitVec.toNat_ushiftRight, Nat.shiftRight_eq_div_pow]; rfl
  have h4 : (3988292384 : Int) = ((3988292384#32).toNat : Int) := by decide
  rw [h1]
  by_cases h : c.toNat % 2 = 1
  · rw [if_pos (h2.2 h), if_pos (by rw [h]; rfl), h3, h4, cxor_word]
  · rw [if_neg (fun e => h (h2.1 e)), if_neg (by have : c.toNat % 2 = 0 := by omega
                                                 rw [this]; decide), h3]

theorem crIter_word (n : Nat) (c : BitVec 32) : crIter n (c.toNat : Int) = ((crIterB n c).toNat : Int) := by
  induction n with
  | zero => rfl
  | succ n ih => show crH (crIter n _) = _; rw [ih, crH_word]; rfl

theorem crS_word (s : BitVec 32) (b : BitVec 8) : crS (s.toNat : Int) (b.toNat : Int) = (((4294967295#32 ^^^ s) ^^^ b.setWidth 32).toNat : Int) := by
  unfold crS
  have h1 : (IntKind.u32.max : Int) = ((4294967295#32).toNat : Int) := by decide
  have h2 : (b.toNat : Int) = ((b.setWidth 32).toNat : Int) := by
    have := b.isLt
    simp
    omega
  rw [h1, cxor_word, h2, cxor_word]

theorem crN_word (s : BitVec 32) (b : BitVec 8) : crN (s.toNat : Int) (b.toNat : Int) = ((crNB s b).toNat : Int) := by
  unfold crN crNB
  have h1 : (IntKind.u32.max : Int) = ((4294967295#32).toNat : Int) := by decide
  rw [crS_word, crIter_word, h1, cxor_word]

/-! ### Numbers that fit are words -/
theorem cword_of {a : Int} (h0 : 0 ≤ a) (h1 : a < 4294967296) : ∃ v : BitVec 32, a = (v.toNat : Int) :=
  ⟨BitVec.ofNat 32 a.toNat, by simp; omega⟩
theorem cbyte_of {a : Int} (h0 : 0 ≤ a) (h1 : a < 256) : ∃ v : BitVec 8, a = (v.toNat : Int) :=
  ⟨BitVec.ofNat 8 a.toNat, by simp; omega⟩

def Fits32 (a : Int) : Prop := 0 ≤ a ∧ a < 4294967296

theorem fits_word (v : BitVec 32) : Fits32 (v.toNat : Int) := ⟨by omega, by have := v.isLt; omega⟩

theorem crH_fits {c : Int} (h : Fits32 c) : Fits32 (crH c) := by
  obtain ⟨v, rfl⟩ := cword_of h.1 h.2
  rw [crH_word]; exact fits_word _
theorem crIter_fits {c : Int} (n : Nat) (h : Fits32 c) : Fits32 (crIter n c) := by
  obtain ⟨v, rfl⟩ := cword_of h.1 h.2
  rw [crIter_word]; exact fits_word _
theorem crS_fits {s b : Int} (h : Fits32 s) (hb : Fits8 b) : Fits32 (crS s b) := by
  obtain ⟨v, rfl⟩ := cword_of h.1 h.2
  obtain ⟨u, rfl⟩ := cbyte_of hb.1 hb.2
  rw [crS_word]; exact fits_word _
theorem crN_fits {s b : Int} (h : Fits32 s) (hb : Fits8 b) : Fits32 (crN s b) := by
  obtain ⟨v, rfl⟩ := cword_of h.1 h.2
  obtain ⟨u, rfl⟩ := cbyte_of hb.1 hb.2
  rw [crN_word]; exact fits_word _

theorem crN_inj_sum {s t b : Int} (hs : Fits32 s) (ht : Fits32 t) (hb : Fits8 b) (h : crN s b = crN t b) : s = t := by
  obtain ⟨s, rfl⟩ := cword_of hs.1 hs.2
  obtain ⟨t, rfl⟩ := cword_of ht.1 ht.2
  obtain ⟨b, rfl⟩ := cbyte_of hb.1 hb.2
  rw [crN_word, crN_word] at h
  rw [crNB_inj_sum (BitVec.eq_of_toNat_eq (by omega : (crNB s b).toNat = (crNB t b).toNat))]
theorem crN_inj_byte {s b c : Int} (hs : Fits32 s) (hb : Fits8 b) (hc : Fits8 c) (h : crN s b = crN s c) : b = c := by
  obtain ⟨s, rfl⟩ := cword_of hs.1 hs.2
  obtain ⟨b, rfl⟩ := cbyte_of hb.1 hb.2
  obtain ⟨c, rfl⟩ := cbyte_of hc.1 hc.2
  rw [crN_word, crN_word] at h
  rw [crNB_inj_byte (BitVec.eq_of_toNat_eq (by omega : (crNB s b).toNat = (crNB s c).toNat))]

theorem crI_fits {s : Int} {zs : List Int} (h : Fits32 s) (hz : ∀ z ∈ zs, Fits8 z) : Fits32 (crI s zs) := by
  induction zs generalizing s with
  | nil => exact h
  | cons z zs ih => exact ih (crN_fits h (hz z (by simp))) (fun y hy => hz y (by simp [hy]))
theorem crI_snoc (s : Int) (zs : List Int) (z : Int) : crI s (zs ++ [z]) = crN (crI s zs) z := by
  simp [crI]
theorem crI_append (s : Int) (xs ys : List Int) : crI s (xs ++ ys) = crI (crI s xs) ys := by
  simp [crI]
theorem crI_inj {s t : Int} {zs : List Int} (hs : Fits32 s) (ht : Fits32 t) (hz : ∀ z ∈ zs, Fits8 z) (h : crI s zs = crI t zs) : s = t := by
  induction zs generalizing s t with
  | nil => exact h
  | cons z zs ih =>
    have hf := hz z (by simp)
    exact crN_inj_sum hs ht hf (ih (crN_fits hs hf) (crN_fits ht hf) (fun y hy => hz y (by simp [hy])) h)
/-- Of bytes in which just one is another one the sum is another one. -/
theorem crI_other {s x y : Int} {xs ys : List Int} (hs : Fits32 s) (ha : ∀ z ∈ xs, Fits8 z) (hb : ∀ z ∈ ys, Fits8 z) (hx : Fits8 x) (hy : Fits8 y)
    (h : crI s (xs ++ x :: ys) = crI s (xs ++ y :: ys)) : x = y := by
  rw [crI_append, crI_append] at h
  have hf := crI_fits hs ha
  exact crN_inj_byte hf hx hy (crI_inj (crN_fits hf hx) (crN_fits hf hy) hb h)

end Go.Proofs.Yteokhkoaieibmaa
