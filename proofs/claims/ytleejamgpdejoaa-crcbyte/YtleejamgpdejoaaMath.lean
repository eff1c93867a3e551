/- Plain mathematics of the check sum: one step of eight halvings can be undone, so it tells bytes and sums apart; no Go text in sight. -/
import Derived.Laws.BitsAllLaws
namespace Go.Proofs.Ytleejamgpdejoaa
open Go

/-! ### The words as the walk spells them -/
def halveI (c : Int) : Int := if (bits .and .u32 c 1 == 1) = true then bits .xor .u32 (c / 2) 3988292384 else c / 2
def iterI : Nat → Int → Int
  | 0, c => c
  | n + 1, c => halveI (iterI n c)
def startI (s b : Int) : Int := bits .xor .u32 (bits .xor .u32 IntKind.u32.max s) b
def nextI (s b : Int) : Int := bits .xor .u32 IntKind.u32.max (iterI 8 (startI s b))
def sumI (s : Int) (zs : List Int) : Int := zs.foldl nextI s

/-! ### The same over words of 32 bits -/
def halveB (c : BitVec 32) : BitVec 32 := if c.getLsbD 0 = true then (c >>> 1) ^^^ 3988292384#32 else c >>> 1
def iterB : Nat → BitVec 32 → BitVec 32
  | 0, c => c
  | n + 1, c => halveB (iterB n c)
def nextB (s : BitVec 32) (b : BitVec 8) : BitVec 32 := 4294967295#32 ^^^ iterB 8 ((4294967295#32 ^^^ s) ^^^ b.setWidth 32)

theorem halveB_bit (c : BitVec 32) (i : Nat) : (halveB c).getLsbD i = (c.getLsbD (i + 1) ^^ (c.getLsbD 0 && (3988292384#32).getLsbD i)) := by
  unfold halveB
  cases h : c.getLsbD 0
  · rw [if_neg (by decide), BitVec.getLsbD_ushiftRight, Nat.add_comm, Bool.false_and, Bool.xor_false]
  · rw [if_pos rfl, BitVec.getLsbD_xor, BitVec.getLsbD_ushiftRight, Nat.add_comm, Bool.true_and]

theorem halveB_inj {c d : BitVec 32} (h : halveB c = halveB d) : c = d := by
  have hb : ∀ i, (halveB c).getLsbD i = (halveB d).getLsbD i := fun i => by rw [h]
  have h0 : c.getLsbD 0 = d.getLsbD 0 := by
    have := hb 31
    rw [halveB_bit, halveB_bit] at this
    have e : (3988292384#32).getLsbD 31 = true := by decide
    rw [e, BitVec.getLsbD_of_ge c 32 (by omega), BitVec.getLsbD_of_ge d 32 (by omega)] at this
    simpa using this
  apply BitVec.eq_of_getLsbD_eq
  intro i hi
  match i with
  | 0 => exact h0
  | i + 1 =>
    have := hb i
    rw [halveB_bit, halveB_bit, h0] at this
    simpa using this

theorem iterB_inj {n : Nat} {c d : BitVec 32} (h : iterB n c = iterB n d) : c = d := by
  induction n with
  | zero => exact h
  | succ n ih => exact ih (halveB_inj h)

theorem xor_inj {w : Nat} {k c d : BitVec w} (h : k ^^^ c = k ^^^ d) : c = d := by
  have := congrArg (k ^^^ ·) h
  simpa [← BitVec.xor_assoc] using this

theorem nextB_inj_sum {s t : BitVec 32} {b : BitVec 8} (h : nextB s b = nextB t b) : s = t := by
  have h1 := iterB_inj (xor_inj h)
  rw [BitVec.xor_comm _ (b.setWidth 32), BitVec.xor_comm _ (b.setWidth 32)] at h1
  exact xor_inj (xor_inj h1)

theorem nextB_inj_byte {s : BitVec 32} {b c : BitVec 8} (h : nextB s b = nextB s c) : b = c := by
  have h1 := xor_inj (iterB_inj (xor_inj h))
  have h2 := congrArg BitVec.toNat h1
  simp at h2
  have := b.isLt
  have := c.isLt
  apply BitVec.eq_of_toNat_eq
  omega

/-! ### From the walk's words to words of bits -/
theorem max_u32 : IntKind.u32.max = 4294967295 := by decide

theorem xor_word (a b : BitVec 32) : bits .xor .u32 (a.toNat : Int) (b.toNat : Int) = ((a ^^^ b).toNat : Int) := by
  rw [u32_xor_nat a.toNat b.toNat a.isLt b.isLt]; simp

theorem halveI_word (c : BitVec 32) : halveI (c.toNat : Int) = ((halveB c).toNat : Int) := by
  unfold halveI halveB
  have h1 : bits .and .u32 (c.toNat : Int) 1 = ((c.toNat % 2 : Nat) : Int) := by
    have := u32_and_nat c.toNat 1 c.isLt (by omega)
    rw [nat_mask1] at this
    exact this
  have h2 : (c.getLsbD 0 = true) ↔ c.toNat % 2 = 1 := by
    simp [BitVec.getLsbD, Nat.testBit]
  have h3 : (c.toNat : Int) / (2 : Int) = ((c >>> 1).toNat : Int) := by
    rw [BitVec.toNat_ushiftRight, Nat.shiftRight_eq_div_pow]; rfl
  have h4 : (3988292384 : Int) = ((3988292384#32).toNat : Int) := by decide
  rw [h1]
  by_cases h : c.toNat % 2 = 1
  · rw [if_pos (h2.2 h), if_pos (by rw [h]; rfl), h3, h4, xor_word]
  · rw [if_neg (fun e => h (h2.1 e)), if_neg (by have : c.toNat % 2 = 0 := by omega
                                                 rw [this]; decide), h3]

theorem iterI_word (n : Nat) (c : BitVec 32) : iterI n (c.toNat : Int) = ((iterB n c).toNat : Int) := by
  induction n with
  | zero => rfl
  | succ n ih => show halveI (iterI n _) = _; rw [ih, halveI_word]; rfl

theorem startI_word (s : BitVec 32) (b : BitVec 8) : startI (s.toNat : Int) (b.toNat : Int) = (((4294967295#32 ^^^ s) ^^^ b.setWidth 32).toNat : Int) := by
  unfold startI
  have h1 : (IntKind.u32.max : Int) = ((4294967295#32).toNat : Int) := by decide
  have h2 : (b.toNat : Int) = ((b.setWidth 32).toNat : Int) := by
    have := b.isLt
    simp
    omega
  rw [h1, xor_word, h2, xor_word]

theorem nextI_word (s : BitVec 32) (b : BitVec 8) : nextI (s.toNat : Int) (b.toNat : Int) = ((nextB s b).toNat : Int) := by
  unfold nextI nextB
  have h1 : (IntKind.u32.max : Int) = ((4294967295#32).toNat : Int) := by decide
  rw [startI_word, iterI_word, h1, xor_word]

/-! ### Numbers that fit are words -/
theorem word_of {a : Int} (h0 : 0 ≤ a) (h1 : a < 4294967296) : ∃ v : BitVec 32, a = (v.toNat : Int) :=
  ⟨BitVec.ofNat 32 a.toNat, by simp; omega⟩
theorem byte_of {a : Int} (h0 : 0 ≤ a) (h1 : a < 256) : ∃ v : BitVec 8, a = (v.toNat : Int) :=
  ⟨BitVec.ofNat 8 a.toNat, by simp; omega⟩

def Fits32 (a : Int) : Prop := 0 ≤ a ∧ a < 4294967296
def Fits8 (a : Int) : Prop := 0 ≤ a ∧ a < 256

theorem fits_word (v : BitVec 32) : Fits32 (v.toNat : Int) := ⟨by omega, by have := v.isLt; omega⟩

theorem halveI_fits {c : Int} (h : Fits32 c) : Fits32 (halveI c) := by
  obtain ⟨v, rfl⟩ := word_of h.1 h.2
  rw [halveI_word]; exact fits_word _
theorem iterI_fits {c : Int} (n : Nat) (h : Fits32 c) : Fits32 (iterI n c) := by
  obtain ⟨v, rfl⟩ := word_of h.1 h.2
  rw [iterI_word]; exact fits_word _
theorem startI_fits {s b : Int} (h : Fits32 s) (hb : Fits8 b) : Fits32 (startI s b) := by
  obtain ⟨v, rfl⟩ := word_of h.1 h.2
  obtain ⟨u, rfl⟩ := byte_of hb.1 hb.2
  rw [startI_word]; exact fits_word _
theorem nextI_fits {s b : Int} (h : Fits32 s) (hb : Fits8 b) : Fits32 (nextI s b) := by
  obtain ⟨v, rfl⟩ := word_of h.1 h.2
  obtain ⟨u, rfl⟩ := byte_of hb.1 hb.2
  rw [nextI_word]; exact fits_word _

theorem nextI_inj_sum {s t b : Int} (hs : Fits32 s) (ht : Fits32 t) (hb : Fits8 b) (h : nextI s b = nextI t b) : s = t := by
  obtain ⟨s, rfl⟩ := word_of hs.1 hs.2
  obtain ⟨t, rfl⟩ := word_of ht.1 ht.2
  obtain ⟨b, rfl⟩ := byte_of hb.1 hb.2
  rw [nextI_word, nextI_word] at h
  rw [nextB_inj_sum (BitVec.eq_of_toNat_eq (by omega : (nextB s b).toNat = (nextB t b).toNat))]
theorem nextI_inj_byte {s b c : Int} (hs : Fits32 s) (hb : Fits8 b) (hc : Fits8 c) (h : nextI s b = nextI s c) : b = c := by
  obtain ⟨s, rfl⟩ := word_of hs.1 hs.2
  obtain ⟨b, rfl⟩ := byte_of hb.1 hb.2
  obtain ⟨c, rfl⟩ := byte_of hc.1 hc.2
  rw [nextI_word, nextI_word] at h
  rw [nextB_inj_byte (BitVec.eq_of_toNat_eq (by omega : (nextB s b).toNat = (nextB s c).toNat))]

theorem sumI_fits {s : Int} {zs : List Int} (h : Fits32 s) (hz : ∀ z ∈ zs, Fits8 z) : Fits32 (sumI s zs) := by
  induction zs generalizing s with
  | nil => exact h
  | cons z zs ih => exact ih (nextI_fits h (hz z (by simp))) (fun y hy => hz y (by simp [hy]))
theorem sumI_snoc (s : Int) (zs : List Int) (z : Int) : sumI s (zs ++ [z]) = nextI (sumI s zs) z := by
  simp [sumI]
theorem sumI_append (s : Int) (xs ys : List Int) : sumI s (xs ++ ys) = sumI (sumI s xs) ys := by
  simp [sumI]
theorem sumI_inj {s t : Int} {zs : List Int} (hs : Fits32 s) (ht : Fits32 t) (hz : ∀ z ∈ zs, Fits8 z) (h : sumI s zs = sumI t zs) : s = t := by
  induction zs generalizing s t with
  | nil => exact h
  | cons z zs ih =>
    have hf := hz z (by simp)
    exact nextI_inj_sum hs ht hf (ih (nextI_fits hs hf) (nextI_fits ht hf) (fun y hy => hz y (by simp [hy])) h)
/-- Of bytes in which just one is another one the sum is another one. -/
theorem sumI_other {s x y : Int} {as bs : List Int} (hs : Fits32 s) (ha : ∀ z ∈ as, Fits8 z) (hb : ∀ z ∈ bs, Fits8 z) (hx : Fits8 x) (hy : Fits8 y)
    (h : sumI s (as ++ x :: bs) = sumI s (as ++ y :: bs)) : x = y := by
  rw [sumI_append, sumI_append] at h
  have hf := sumI_fits hs ha
  exact nextI_inj_byte hf hx hy (sumI_inj (nextI_fits hf hx) (nextI_fits hf hy) hb h)

/-- The chapter's example. -/
theorem sum_known : sumI 0 [49, 50, 51, 52, 53, 54, 55, 56, 57] = 3421780262 := by decide +kernel
end Go.Proofs.Ytleejamgpdejoaa
