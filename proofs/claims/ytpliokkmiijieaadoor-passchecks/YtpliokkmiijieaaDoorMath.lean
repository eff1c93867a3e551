/- Plain mathematics of the digest: no Go text in sight. -/
import Derived.Laws.BitsAllLaws
namespace Go.Proofs.YtpliokkmiijieaaDoor
open Go

def Fits32 (a : Int) : Prop := 0 ≤ a ∧ a < 4294967296
def Fits8 (a : Int) : Prop := 0 ≤ a ∧ a < 256
/-- Turned round to the right by n bits: p is 2^(32-n), q is 2^n. -/
def rorI (p q v : Int) : Int := bits .or .u32 (v * p % 4294967296) (v / q)
def rorN (n v : Int) : Int := rorI (2 ^ (32 - n.toNat)) (2 ^ n.toNat) v
theorem rorN_at {n p q v : Int} (hp : p = 2 ^ (32 - n.toNat)) (hq : q = 2 ^ n.toNat) : rorI p q v = rorN n v := by rw [hp, hq]; rfl

theorem mod_fits (a : Int) : Fits32 (a % 4294967296) := ⟨by omega, by omega⟩
theorem div_fits {a q : Int} (h : Fits32 a) (hq : 1 ≤ q) : Fits32 (a / q) :=
  ⟨Int.ediv_nonneg h.1 (by omega), Int.lt_of_le_of_lt (Int.ediv_le_self q h.1) h.2⟩
theorem toNat_fits {a : Int} (h : Fits32 a) : a.toNat < 2 ^ 32 := by have := h.1; have := h.2; omega
theorem or_fits {a b : Int} (ha : Fits32 a) (hb : Fits32 b) : Fits32 (bits .or .u32 a b) := by
  rw [u32_or a b ha.1 ha.2 hb.1 hb.2]
  have := Nat.or_lt_two_pow (toNat_fits ha) (toNat_fits hb)
  exact ⟨by omega, by omega⟩
theorem xor_fits {a b : Int} (ha : Fits32 a) (hb : Fits32 b) : Fits32 (bits .xor .u32 a b) := by
  rw [u32_xor a b ha.1 ha.2 hb.1 hb.2]
  have := Nat.xor_lt_two_pow (toNat_fits ha) (toNat_fits hb)
  exact ⟨by omega, by omega⟩
theorem and_fits {a b : Int} (ha : Fits32 a) (hb : Fits32 b) : Fits32 (bits .and .u32 a b) := by
  rw [u32_and a b ha.1 ha.2 hb.1 hb.2]
  have := Nat.and_lt_two_pow a.toNat (toNat_fits hb)
  exact ⟨by omega, by omega⟩
theorem or_turn {a b : Int} (ha : Fits32 a) (hb : Fits32 b) : bits .or .u32 a b = bits .or .u32 b a := by
  rw [u32_or a b ha.1 ha.2 hb.1 hb.2, u32_or b a hb.1 hb.2 ha.1 ha.2, Nat.or_comm]
theorem rorI_turn {p q v : Int} (_hp : 1 ≤ p) (hq : 1 ≤ q) (h : Fits32 v) : bits .or .u32 (v / q) (v * p % 4294967296) = rorI p q v :=
  or_turn (div_fits h hq) (mod_fits _)
theorem rorI_fits {p q v : Int} (hq : 1 ≤ q) (h : Fits32 v) : Fits32 (rorI p q v) := or_fits (mod_fits _) (div_fits h hq)

/-! ### One round -/
def big1 (e : Int) : Int := bits .xor .u32 (bits .xor .u32 (rorN 6 e) (rorN 11 e)) (rorN 25 e)
def big0 (a : Int) : Int := bits .xor .u32 (bits .xor .u32 (rorN 2 a) (rorN 13 a)) (rorN 22 a)
def chI (e f g : Int) : Int := bits .xor .u32 (bits .and .u32 e f) (bits .and .u32 (bits .xor .u32 IntKind.u32.max e) g)
def majI (a b c : Int) : Int := bits .xor .u32 (bits .xor .u32 (bits .and .u32 a b) (bits .and .u32 a c)) (bits .and .u32 b c)
def oneI (e f g h k : Int) : Int := h + big1 e + chI e f g + k
def twoI (a b c : Int) : Int := big0 a + majI a b c
def roundI : List Int → Int → List Int
  | [a, b, c, d, e, f, g, h], k => [(oneI e f g h k + twoI a b c) % 4294967296, a, b, c, (d + oneI e f g h k) % 4294967296, e, f, g]
  | _, _ => []
theorem len8 {S : List Int} (h : S.length = 8) : ∃ a b c d e f g h, S = [a, b, c, d, e, f, g, h] := by
  match S, h with
  | [a, b, c, d, e, f, g, h], _ => exact ⟨a, b, c, d, e, f, g, h, rfl⟩
theorem roundI_length {S : List Int} (k : Int) (h : S.length = 8) : (roundI S k).length = 8 := by
  obtain ⟨a, b, c, d, e, f, g, h, rfl⟩ := len8 h
  rfl
theorem roundI_fits {S : List Int} (k : Int) (h : S.length = 8) (hf : ∀ z ∈ S, Fits32 z) : ∀ z ∈ roundI S k, Fits32 z := by
  obtain ⟨a, b, c, d, e, f, g, h, rfl⟩ := len8 h
  intro z hz
  simp only [List.mem_cons, List.not_mem_nil, or_false, forall_eq_or_imp, forall_eq] at hf
  simp only [roundI, List.mem_cons, List.not_mem_nil, or_false] at hz
  rcases hz with rfl | rfl | rfl | rfl | rfl | rfl | rfl | rfl <;> first | exact mod_fits _ | simp [hf]

/-! ### The sixty-four words of a block -/
def wordI (B : List Int) (k : Nat) : Int :=
  bits .or .u32 (bits .or .u32 (bits .or .u32 (B.getD (4 * k) 0 % 4294967296 * 16777216 % 4294967296) (B.getD (4 * k + 1) 0 % 4294967296 * 65536 % 4294967296)) (B.getD (4 * k + 2) 0 % 4294967296 * 256 % 4294967296)) (B.getD (4 * k + 3) 0 % 4294967296)
def sig0 (a : Int) : Int := bits .xor .u32 (bits .xor .u32 (rorN 7 a) (rorN 18 a)) (a / 8)
def sig1 (a : Int) : Int := bits .xor .u32 (bits .xor .u32 (rorN 17 a) (rorN 19 a)) (a / 1024)
def nextW (W : List Int) (t : Nat) : Int := (W.getD (t - 16) 0 + sig0 (W.getD (t - 15) 0) + W.getD (t - 7) 0 + sig1 (W.getD (t - 2) 0)) % 4294967296
def stepW (B W : List Int) (t : Nat) : Int := if t < 16 then wordI B t else nextW W t
def schedN (B : List Int) : Nat → List Int
  | 0 => List.replicate 64 0
  | t + 1 => (schedN B t).set t (stepW B (schedN B t) t)
theorem schedN_length (B : List Int) (n : Nat) : (schedN B n).length = 64 := by
  induction n with
  | zero => simp [schedN]
  | succ n ih => simp [schedN, ih]
theorem wordI_fits (B : List Int) (k : Nat) : Fits32 (wordI B k) := or_fits (or_fits (or_fits (mod_fits _) (mod_fits _)) (mod_fits _)) (mod_fits _)
theorem stepW_fits (B W : List Int) (t : Nat) : Fits32 (stepW B W t) := by
  unfold stepW; split
  · exact wordI_fits B t
  · exact mod_fits _
theorem schedN_fits (B : List Int) (n : Nat) : ∀ z ∈ schedN B n, Fits32 z := by
  induction n with
  | zero => intro z hz; rw [schedN, List.mem_replicate] at hz; rw [hz.2]; exact ⟨by omega, by omega⟩
  | succ n ih =>
    intro z hz
    rcases List.mem_or_eq_of_mem_set hz with h | h
    · exact ih z h
    · rw [h]; exact stepW_fits _ _ _
theorem getD_fits {L : List Int} (h : ∀ z ∈ L, Fits32 z) (i : Nat) : Fits32 (L.getD i 0) := by
  by_cases hi : i < L.length
  · have : L.getD i 0 = L[i] := by simp [List.getD, hi]
    rw [this]; exact h _ (List.getElem_mem hi)
  · have : L.getD i 0 = 0 := by simp [List.getD, List.getElem?_eq_none (by omega : L.length ≤ i)]
    rw [this]; exact ⟨by omega, by omega⟩

/-! ### One block -/
def roundK : List Int := [1116352408, 1899447441, 3049323471, 3921009573, 961987163, 1508970993, 2453635748, 2870763221, 3624381080, 310598401, 607225278, 1426881987, 1925078388, 2162078206, 2614888103, 3248222580, 3835390401, 4022224774, 264347078, 604807628, 770255983, 1249150122, 1555081692, 1996064986, 2554220882, 2821834349, 2952996808, 3210313671, 3336571891, 3584528711, 113926993, 338241895, 666307205, 773529912, 1294757372, 1396182291, 1695183700, 1986661051, 2177026350, 2456956037, 2730485921, 2820302411, 3259730800, 3345764771, 3516065817, 3600352804, 4094571909, 275423344, 430227734, 506948616, 659060556, 883997877, 958139571, 1322822218, 1537002063, 1747873779, 1955562222, 2024104815, 2227730452, 2361852424, 2428436474, 2756734187, 3204031479, 3329325298]
def startS : List Int := [1779033703, 3144134277, 1013904242, 2773480762, 1359893119, 2600822924, 528734635, 1541459225]
def roundsN (S W : List Int) : Nat → List Int
  | 0 => S
  | t + 1 => roundI (roundsN S W t) ((roundK.getD t 0 + W.getD t 0) % 4294967296)
def addN (S R : List Int) : Nat → List Int
  | 0 => R
  | i + 1 => (addN S R i).set i (((addN S R i).getD i 0 + S.getD i 0) % 4294967296)
def mixI (S B : List Int) : List Int := addN S (roundsN S (schedN B 64) 64) 8
theorem roundsN_length {S : List Int} (W : List Int) (n : Nat) (h : S.length = 8) : (roundsN S W n).length = 8 := by
  induction n with
  | zero => exact h
  | succ n ih => exact roundI_length _ ih
theorem roundsN_fits {S : List Int} (W : List Int) (n : Nat) (h : S.length = 8) (hf : ∀ z ∈ S, Fits32 z) : ∀ z ∈ roundsN S W n, Fits32 z := by
  induction n with
  | zero => exact hf
  | succ n ih => exact roundI_fits _ (roundsN_length W n h) ih
theorem addN_length {S R : List Int} (n : Nat) : (addN S R n).length = R.length := by
  induction n with
  | zero => rfl
  | succ n ih => simp [addN, ih]
theorem addN_fits {S R : List Int} (n : Nat) (hf : ∀ z ∈ R, Fits32 z) : ∀ z ∈ addN S R n, Fits32 z := by
  induction n with
  | zero => exact hf
  | succ n ih =>
    intro z hz
    rcases List.mem_or_eq_of_mem_set hz with h | h
    · exact ih z h
    · rw [h]; exact mod_fits _
theorem mixI_length {S : List Int} (B : List Int) (h : S.length = 8) : (mixI S B).length = 8 := by
  unfold mixI; rw [addN_length, roundsN_length _ _ h]
theorem mixI_fits {S : List Int} (B : List Int) (h : S.length = 8) (hf : ∀ z ∈ S, Fits32 z) : ∀ z ∈ mixI S B, Fits32 z :=
  addN_fits 8 (roundsN_fits _ 64 h hf)

/-! ### A hash: what it holds, byte by byte -/
structure St where
  S : List Int
  R : List Int
  T : Nat
def stepB (s : St) (z : Int) : St :=
  if (s.T + 1) % 64 = 0 then ⟨mixI s.S (s.R.set (s.T % 64) z), s.R.set (s.T % 64) z, s.T + 1⟩ else ⟨s.S, s.R.set (s.T % 64) z, s.T + 1⟩
def takeI (s : St) (zs : List Int) : St := zs.foldl stepB s
def St.Wf (s : St) : Prop := s.S.length = 8 ∧ (∀ z ∈ s.S, Fits32 z) ∧ s.R.length = 64 ∧ (∀ z ∈ s.R, Fits8 z)
theorem takeI_append (s : St) (xs ys : List Int) : takeI s (xs ++ ys) = takeI (takeI s xs) ys := by simp [takeI]
theorem stepB_T (s : St) (z : Int) : (stepB s z).T = s.T + 1 := by unfold stepB; split <;> rfl
theorem takeI_T (s : St) (zs : List Int) : (takeI s zs).T = s.T + zs.length := by
  induction zs generalizing s with
  | nil => rfl
  | cons z r ih => show (takeI (stepB s z) r).T = _; rw [ih, stepB_T]; simp; omega
theorem stepB_wf {s : St} {z : Int} (h : s.Wf) (hz : Fits8 z) : (stepB s z).Wf := by
  obtain ⟨h1, h2, h3, h4⟩ := h
  have hr : ∀ y ∈ s.R.set (s.T % 64) z, Fits8 y := fun y hy => by
    rcases List.mem_or_eq_of_mem_set hy with h | h
    · exact h4 y h
    · rw [h]; exact hz
  unfold stepB; split
  · exact ⟨mixI_length _ h1, mixI_fits _ h1 h2, by simp [h3], hr⟩
  · exact ⟨h1, h2, by simp [h3], hr⟩
theorem takeI_wf {s : St} {zs : List Int} (h : s.Wf) (hz : ∀ z ∈ zs, Fits8 z) : (takeI s zs).Wf := by
  induction zs generalizing s with
  | nil => exact h
  | cons z r ih => exact ih (stepB_wf h (hz z (by simp))) (fun y hy => hz y (by simp [hy]))
end Go.Proofs.YtpliokkmiijieaaDoor
