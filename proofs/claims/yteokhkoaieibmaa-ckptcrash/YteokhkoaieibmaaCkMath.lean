/- Checkpoints as blocks, and back: plain mathematics. -/
import Derived.Test.YteokhkoaieibmaaRcMath
import Derived.Test.YteokhkoaieibmaaZDev
namespace Go.Proofs.Yteokhkoaieibmaa
open Go.RowKit
set_option linter.unusedVariables false
set_option maxRecDepth 4000

abbrev Pr := Int × Int
/-- A block's name and its place. -/
abbrev Pl := Pr × Pr
def I64 (z : Int) : Prop := -9223372036854775808 ≤ z ∧ z < 9223372036854775808
def FitsN (x : Pr) : Prop := Fits32 x.1 ∧ FitsU x.2
def FitsS (x : Pr) : Prop := I64 x.1 ∧ I64 x.2
def FitsP (p : Pl) : Prop := FitsN p.1 ∧ FitsS p.2
def ltP (x y : Pr) : Bool := decide (x.1 < y.1 ∨ (x.1 = y.1 ∧ x.2 < y.2))
theorem ltP_iff (x y : Pr) : ltP x y = true ↔ (x.1 < y.1 ∨ (x.1 = y.1 ∧ x.2 < y.2)) := by unfold ltP; simp

/-! ### One block -/
def hkW : List Int := [4, 4, 4, 4, 8, 2]
def plW : List Int := [4, 8, 2, 2]
def plV (p : Pl) : List Int := [p.1.1, p.1.2, p.2.1, p.2.2]
def hkV (i m seq n : Int) : List Int := [1129009236, 0, i, m, seq, n]
def plB (p : Pl) : List Int := packL plW (plV p)
def hkB (i m seq n : Int) : List Int := packL hkW (hkV i m seq n)
theorem plB_eq (p : Pl) : plB p = bigI 4 p.1.1 ++ (bigI 8 p.1.2 ++ (bigI 2 p.2.1 ++ bigI 2 p.2.2)) := by simp [plB, plW, plV, packL, wd]
theorem hkB_eq (i m seq n : Int) : hkB i m seq n = bigI 4 1129009236 ++ (bigI 4 0 ++ (bigI 4 i ++ (bigI 4 m ++ (bigI 8 seq ++ bigI 2 n)))) := by simp [hkB, hkW, hkV, packL, wd]
theorem plB_length (p : Pl) : (plB p).length = 16 := by simp [plB_eq, bigI_length]
theorem hkB_length (i m seq n : Int) : (hkB i m seq n).length = 26 := by simp [hkB_eq, bigI_length]
theorem plB_fits (p : Pl) : ∀ z ∈ plB p, Fits8 z := packL_fits _ _
theorem hkB_fits (i m seq n : Int) : ∀ z ∈ hkB i m seq n, Fits8 z := packL_fits _ _
def plsB (ps : List Pl) : List Int := ps.flatMap plB
theorem plsB_snoc (ps : List Pl) (p : Pl) : plsB (ps ++ [p]) = plsB ps ++ plB p := by simp [plsB]
theorem plsB_length (ps : List Pl) : (plsB ps).length = 16 * ps.length := by
  induction ps with
  | nil => rfl
  | cons p r ih =>
    have e : plsB (p :: r) = plB p ++ plsB r := by simp [plsB]
    rw [e, List.length_append, plB_length, ih, List.length_cons]; omega
theorem plsB_fits (ps : List Pl) : ∀ z ∈ plsB ps, Fits8 z := by
  intro z hz
  obtain ⟨p, _, hp⟩ := List.mem_flatMap.1 hz
  exact plB_fits p z hp
def frontK (i m seq : Int) (ps : List Pl) : List Int := hkB i m seq ps.length ++ plsB ps
theorem frontK_length (i m seq : Int) (ps : List Pl) : (frontK i m seq ps).length = 26 + 16 * ps.length := by rw [frontK, List.length_append, hkB_length, plsB_length]
/-- The block with 00 in its sum's place. -/
def ckP (N : Nat) (i m seq : Int) (ps : List Pl) : List Int := frontK i m seq ps ++ List.replicate (N - 1 - (26 + 16 * ps.length)) 0 ++ [231]
def ckB (N : Nat) (i m seq : Int) (ps : List Pl) : List Int := joinL (ckP N i m seq ps)
section
variable {N : Nat} {i m seq : Int} {ps : List Pl}
theorem ckP_eq : ckP N i m seq ps = bigI 4 1129009236 ++ (bigI 4 0 ++ (bigI 4 i ++ (bigI 4 m ++ (bigI 8 seq ++ (bigI 2 ps.length ++ (plsB ps ++ (List.replicate (N - 1 - (26 + 16 * ps.length)) 0 ++ [231]))))))) := by simp [ckP, frontK, hkB_eq]
theorem ckP_length (h : 27 + 16 * ps.length ≤ N) : (ckP N i m seq ps).length = N := by
  simp only [ckP, List.length_append, frontK_length, List.length_replicate, List.length_singleton]; omega
theorem ckP_fits : ∀ z ∈ ckP N i m seq ps, Fits8 z := by
  intro z hz
  simp only [ckP, frontK, List.mem_append, List.mem_replicate, List.mem_singleton] at hz
  rcases hz with ((h | h) | ⟨_, h⟩) | h
  · exact hkB_fits _ _ _ _ z h
  · exact plsB_fits _ z h
  · subst h; unfold Fits8; omega
  · subst h; unfold Fits8; omega
theorem ckP_zero : ((ckP N i m seq ps).drop 4).take 4 = [0, 0, 0, 0] := by
  rw [ckP_eq, List.drop_left' (bigI_length _ _), List.take_left' (bigI_length _ _), big40]
theorem ckP_eight : 8 ≤ (ckP N i m seq ps).length := by
  simp only [ckP, List.length_append, frontK_length]; omega
theorem ckB_length (h : 27 + 16 * ps.length ≤ N) : (ckB N i m seq ps).length = N := by rw [ckB, join_length ckP_eight, ckP_length h]
theorem ckB_fits : ∀ z ∈ ckB N i m seq ps, Fits8 z := join_fits ckP_fits
theorem strip_ck : stripL (ckB N i m seq ps) = ckP N i m seq ps := strip_join ckP_eight ckP_zero
theorem ckB_join : ckB N i m seq ps = joinL (stripL (ckB N i m seq ps)) := by rw [strip_ck]; rfl
theorem ckB_drop {j : Nat} (hj : 8 ≤ j) : (ckB N i m seq ps).drop j = (ckP N i m seq ps).drop j := by
  obtain ⟨k, rfl⟩ : ∃ k, j = 8 + k := ⟨j - 8, by omega⟩
  rw [← List.drop_drop, ← List.drop_drop, ckB, join_drop ckP_eight]
theorem ckP_drop8 : (ckP N i m seq ps).drop 8 = bigI 4 i ++ (bigI 4 m ++ (bigI 8 seq ++ (bigI 2 ps.length ++ (plsB ps ++ (List.replicate (N - 1 - (26 + 16 * ps.length)) 0 ++ [231]))))) := by
  rw [ckP_eq, show (8 : Nat) = 4 + 4 from rfl, ← List.drop_drop, List.drop_left' (bigI_length _ _), List.drop_left' (bigI_length _ _)]
theorem ckP_drop12 : (ckP N i m seq ps).drop 12 = bigI 4 m ++ (bigI 8 seq ++ (bigI 2 ps.length ++ (plsB ps ++ (List.replicate (N - 1 - (26 + 16 * ps.length)) 0 ++ [231])))) := by
  rw [show (12 : Nat) = 8 + 4 from rfl, ← List.drop_drop, ckP_drop8, List.drop_left' (bigI_length _ _)]
theorem ckP_drop16 : (ckP N i m seq ps).drop 16 = bigI 8 seq ++ (bigI 2 ps.length ++ (plsB ps ++ (List.replicate (N - 1 - (26 + 16 * ps.length)) 0 ++ [231]))) := by
  rw [show (16 : Nat) = 12 + 4 from rfl, ← List.drop_drop, ckP_drop12, List.drop_left' (bigI_length _ _)]
theorem ckP_drop24 : (ckP N i m seq ps).drop 24 = bigI 2 ps.length ++ (plsB ps ++ (List.replicate (N - 1 - (26 + 16 * ps.length)) 0 ++ [231])) := by
  rw [show (24 : Nat) = 16 + 8 from rfl, ← List.drop_drop, ckP_drop16, List.drop_left' (bigI_length _ _)]
theorem ckP_drop26 : (ckP N i m seq ps).drop 26 = plsB ps ++ (List.replicate (N - 1 - (26 + 16 * ps.length)) 0 ++ [231]) := by
  rw [show (26 : Nat) = 24 + 2 from rfl, ← List.drop_drop, ckP_drop24, List.drop_left' (bigI_length _ _)]
end

/-! ### What is read -/
def rkM (bs : List Int) : Int := numI (bs.take 4)
def rkS (bs : List Int) : Int := numI ((bs.drop 4).take 4)
def rkI (bs : List Int) : Int := numI ((bs.drop 8).take 4)
def rkH (bs : List Int) : Int := numI ((bs.drop 12).take 4)
def rkSeq (bs : List Int) : Int := numI ((bs.drop 16).take 8)
def rkN (bs : List Int) : Int := numI ((bs.drop 24).take 2)
def rkP (ys : List Int) : Pl := ((numI (ys.take 4), numI ((ys.drop 4).take 8)), (numI ((ys.drop 12).take 2), numI ((ys.drop 14).take 2)))
def rkL : Nat → List Int → List Pl
  | 0, _ => []
  | n + 1, ys => rkP ys :: rkL n (ys.drop 16)
theorem rkL_length : ∀ (n : Nat) (ys : List Int), (rkL n ys).length = n
  | 0, _ => rfl
  | n + 1, ys => by simp [rkL, rkL_length n]
theorem rkL_snoc : ∀ (n : Nat) (ys : List Int), rkL (n + 1) ys = rkL n ys ++ [rkP (ys.drop (16 * n))]
  | 0, ys => by simp [rkL]
  | n + 1, ys => by
    show rkP ys :: rkL (n + 1) (ys.drop 16) = _
    rw [rkL_snoc n, List.drop_drop]
    have e : 16 * (n + 1) = 16 + 16 * n := by omega
    rw [e]
    rfl
def rkPs (bs : List Int) : List Pl := rkL (rkN bs).toNat (bs.drop 26)
theorem val_hk (bs : List Int) : valL bs hkW = [rkM bs, rkS bs, rkI bs, rkH bs, rkSeq bs, rkN bs] := by
  simp [valL, hkW, wd, rkM, rkS, rkI, rkH, rkSeq, rkN, List.drop_drop]
theorem val_pl (ys : List Int) : valL ys plW = plV (rkP ys) := by
  simp [valL, plW, wd, rkP, plV, List.drop_drop]
theorem off_hk : offL hkW = 26 := by decide
theorem off_pl : offL plW = 16 := by decide
/-- What stands in a block's bytes: numbers of two bytes. -/
def Fit2 (p : Pl) : Prop := FitsN p.1 ∧ Fits16 p.2.1 ∧ Fits16 p.2.2
theorem Fit2.fits {p : Pl} (h : Fit2 p) : FitsP p := by
  obtain ⟨h1, h2, h3⟩ := h
  unfold Fits16 at h2 h3
  exact ⟨h1, by unfold I64; omega, by unfold I64; omega⟩
theorem rkP_fits {ys : List Int} (h : ∀ z ∈ ys, Fits8 z) : Fit2 (rkP ys) := by
  have a := numI_small (n := 4) (part_len ys 0 4) (fits_part h 0 4)
  have b := numI_small (n := 8) (part_len ys 4 8) (fits_part h 4 8)
  have c := numI_small (n := 2) (part_len ys 12 2) (fits_part h 12 2)
  have d := numI_small (n := 2) (part_len ys 14 2) (fits_part h 14 2)
  exact ⟨⟨a, b⟩, c, d⟩
theorem rkL_fits : ∀ (n : Nat) {ys : List Int}, (∀ z ∈ ys, Fits8 z) → ∀ x ∈ rkL n ys, Fit2 x
  | 0, _, _, x, hx => by simp [rkL] at hx
  | n + 1, ys, h, x, hx => by
    simp only [rkL, List.mem_cons] at hx
    rcases hx with rfl | hx
    · exact rkP_fits h
    · exact rkL_fits n (fun z hz => h z (List.mem_of_mem_drop hz)) x hx
theorem rkSeq_fits {bs : List Int} (h : ∀ z ∈ bs, Fits8 z) : FitsU (rkSeq bs) := numI_small (n := 8) (part_len bs 16 8) (fits_part h 16 8)
theorem rkN_fits {bs : List Int} (h : ∀ z ∈ bs, Fits8 z) : Fits16 (rkN bs) := numI_small (n := 2) (part_len bs 24 2) (fits_part h 24 2)
theorem rkP_pl {p : Pl} (h : Fit2 p) (more : List Int) : rkP (plB p ++ more) = p := by
  obtain ⟨⟨h1, h2⟩, h3, h4⟩ := h
  have e : plB p ++ more = bigI 4 p.1.1 ++ (bigI 8 p.1.2 ++ (bigI 2 p.2.1 ++ (bigI 2 p.2.2 ++ more))) := by rw [plB_eq]; simp
  have d4 : (plB p ++ more).drop 4 = bigI 8 p.1.2 ++ (bigI 2 p.2.1 ++ (bigI 2 p.2.2 ++ more)) := by rw [e, List.drop_left' (bigI_length _ _)]
  have d12 : (plB p ++ more).drop 12 = bigI 2 p.2.1 ++ (bigI 2 p.2.2 ++ more) := by
    rw [show (12 : Nat) = 4 + 8 from rfl, ← List.drop_drop, d4, List.drop_left' (bigI_length _ _)]
  have d14 : (plB p ++ more).drop 14 = bigI 2 p.2.2 ++ more := by
    rw [show (14 : Nat) = 12 + 2 from rfl, ← List.drop_drop, d12, List.drop_left' (bigI_length _ _)]
  unfold rkP
  rw [d4, d12, d14, e]
  simp only [List.take_left' (bigI_length _ _)]
  rw [numI_of h1.1 h1.2, numI_of h2.1 h2.2, numI_of h3.1 h3.2, numI_of h4.1 h4.2]
theorem rkL_pls : ∀ (ps : List Pl) (more : List Int), (∀ x ∈ ps, Fit2 x) → rkL ps.length (plsB ps ++ more) = ps
  | [], _, _ => rfl
  | p :: ps, more, h => by
    have e : plsB (p :: ps) ++ more = plB p ++ (plsB ps ++ more) := by simp [plsB]
    show rkP _ :: rkL ps.length _ = _
    rw [e, rkP_pl (h p (by simp)), List.drop_left' (plB_length _), rkL_pls ps more (fun y hy => h y (by simp [hy]))]
theorem rk_ck {N : Nat} {i m seq : Int} {ps : List Pl} (hi : Fits32 i) (hm : Fits32 m) (hs : FitsU seq) (hp : ∀ x ∈ ps, Fit2 x) (hn : ps.length ≤ 60000) :
    rkM (ckB N i m seq ps) = 1129009236 ∧ rkI (ckB N i m seq ps) = i ∧ rkH (ckB N i m seq ps) = m ∧ rkSeq (ckB N i m seq ps) = seq ∧ rkN (ckB N i m seq ps) = ps.length ∧ rkPs (ckB N i m seq ps) = ps := by
  have hN : rkN (ckB N i m seq ps) = ps.length := by
    unfold rkN
    have h2 : (256 : Int) ^ 2 = 65536 := by decide
    rw [ckB_drop (by omega), ckP_drop24, List.take_left' (bigI_length _ _), numI_of (by omega) (by omega)]
  refine ⟨?_, ?_, ?_, ?_, hN, ?_⟩
  · unfold rkM
    rw [ckB, join_take ckP_eight, ckP_eq, List.take_left' (bigI_length _ _)]
    decide
  · unfold rkI
    rw [ckB_drop (by omega), ckP_drop8, List.take_left' (bigI_length _ _), numI_of hi.1 hi.2]
  · unfold rkH
    rw [ckB_drop (by omega), ckP_drop12, List.take_left' (bigI_length _ _), numI_of hm.1 hm.2]
  · unfold rkSeq
    rw [ckB_drop (by omega), ckP_drop16, List.take_left' (bigI_length _ _), numI_of hs.1 hs.2]
  · unfold rkPs
    rw [hN, ckB_drop (by omega), ckP_drop26, Int.toNat_natCast, rkL_pls _ _ hp]

/-! ### A state as blocks -/
def roomK (b : Int) : Int := if b ∈ PowR then (b - 27) / 16 else 0
theorem roomK_pow {b : Int} (h : b ∈ PowR) : 2 ≤ roomK b ∧ 27 + 16 * roomK b ≤ b ∧ roomK b ≤ 254 := by
  have := pow_bounds h
  unfold roomK
  rw [if_pos h]
  omega
def Rises (ps : List Pl) : Prop := ∀ i p q, ps[i]? = some p → ps[i + 1]? = some q → ltP p.1 q.1 = true
def InSh (s : Sh) (p : Pl) : Prop := 2 ≤ p.2.1 ∧ p.2.1 < s.z ∧ 0 ≤ p.2.2 ∧ p.2.2 < s.zb
def GoodK (s : Sh) (ps : List Pl) : Prop := RightS s ∧ Rises ps ∧ ∀ p ∈ ps, InSh s p
def roomN (s : Sh) : Nat := (roomK s.b).toNat
def manyN (r n : Nat) : Nat := max 1 ((n + r - 1) / r)
def partK (r i : Nat) (ps : List Pl) : List Pl := (ps.drop (i * r)).take r
def mK (s : Sh) (ps : List Pl) : Nat := manyN (roomN s) ps.length
def ckL (s : Sh) (seq : Int) (ps : List Pl) : List (List Int) := (List.range (mK s ps)).map fun i : Nat => ckB s.b.toNat i (mK s ps : Nat) seq (partK (roomN s) i ps)
open Classical in
/-- Encode's error, and what it tells. -/
noncomputable def ckE (s : Sh) (ps : List Pl) : Int := if GoodK s ps then (if (mK s ps : Int) ≤ s.zb then 0 else 140) else 141
open Classical in
noncomputable def ckO (s : Sh) (seq : Int) (ps : List Pl) : List (List Int) := if ckE s ps = 0 then ckL s seq ps else []
theorem ckE_zero {s : Sh} {ps : List Pl} : ckE s ps = 0 ↔ GoodK s ps ∧ (mK s ps : Int) ≤ s.zb := by
  unfold ckE
  split
  · split
    · simp [*]
    · simp [*]
  · simp [*]
theorem roomN_pos {s : Sh} (h : RightS s) : 2 ≤ roomN s ∧ 27 + 16 * roomN s ≤ s.b.toNat ∧ roomN s ≤ 254 := by
  have hb : s.b ∈ PowR := h.2.2.2.2.1
  have h1 := roomK_pow hb
  have h2 := pow_bounds hb
  unfold roomN
  omega
theorem mK_pos (s : Sh) (ps : List Pl) : 1 ≤ mK s ps := by unfold mK manyN; omega
theorem manyN_all {r n : Nat} (hr : 0 < r) : n ≤ manyN r n * r := by
  have h1 := Nat.div_add_mod (n + r - 1) r
  have h2 := Nat.mod_lt (n + r - 1) hr
  have h3 : (n + r - 1) / r ≤ manyN r n := by unfold manyN; omega
  have h4 : (n + r - 1) / r * r ≤ manyN r n * r := Nat.mul_le_mul_right r h3
  rw [Nat.mul_comm] at h1
  omega
theorem partK_length_le (r i : Nat) (ps : List Pl) : (partK r i ps).length ≤ r := by unfold partK; rw [List.length_take]; omega
theorem parts_all (r : Nat) (ps : List Pl) : ∀ m : Nat, (List.range m).flatMap (fun i => partK r i ps) = ps.take (m * r)
  | 0 => by simp
  | m + 1 => by
    rw [List.range_succ, List.flatMap_append, parts_all r ps m]
    have e : (m + 1) * r = m * r + r := Nat.succ_mul m r
    rw [e, List.take_add]
    simp [partK]
theorem ckL_length (s : Sh) (seq : Int) (ps : List Pl) : (ckL s seq ps).length = mK s ps := by simp [ckL]
theorem ckL_at {s : Sh} {seq : Int} {ps : List Pl} {i : Nat} (h : i < mK s ps) : (ckL s seq ps)[i]? = some (ckB s.b.toNat i (mK s ps : Nat) seq (partK (roomN s) i ps)) := by
  unfold ckL
  rw [List.getElem?_map, List.getElem?_range h]
  rfl
theorem ckL_mem {s : Sh} {seq : Int} {ps : List Pl} {b : List Int} (h : b ∈ ckL s seq ps) : ∃ i, i < mK s ps ∧ b = ckB s.b.toNat (i : Nat) (mK s ps : Nat) seq (partK (roomN s) i ps) := by
  unfold ckL at h
  obtain ⟨i, hi, rfl⟩ := List.mem_map.1 h
  exact ⟨i, List.mem_range.1 hi, rfl⟩
theorem good_fit2 {s : Sh} {ps : List Pl} (h : GoodK s ps) (hn : ∀ p ∈ ps, FitsN p.1) : ∀ p ∈ ps, Fit2 p := by
  intro p hp
  have h1 := h.2.2 p hp
  have h2 := h.1
  unfold InSh at h1
  unfold RightS at h2
  exact ⟨hn p hp, by unfold Fits16; omega, by unfold Fits16; omega⟩
theorem part_mem {r i : Nat} {ps : List Pl} {p : Pl} (h : p ∈ partK r i ps) : p ∈ ps := List.mem_of_mem_drop (List.mem_of_mem_take h)

/-! ### Are blocks a state? -/
def allPs (l : List (List Int)) : List Pl := l.flatMap rkPs
def allSeq (l : List (List Int)) : Int := l.foldl (fun _ b => rkSeq b) 0
theorem allPs_snoc (l : List (List Int)) (b : List Int) : allPs (l ++ [b]) = allPs l ++ rkPs b := by simp [allPs]
theorem allSeq_snoc (l : List (List Int)) (b : List Int) : allSeq (l ++ [b]) = rkSeq b := by simp [allSeq]
def IsK (s : Sh) (l : List (List Int)) : Prop := ckE s (allPs l) = 0 ∧ ckL s (allSeq l) (allPs l) = l
theorem allPs_fits {l : List (List Int)} (h : ∀ b ∈ l, ∀ z ∈ b, Fits8 z) : ∀ p ∈ allPs l, Fit2 p := by
  intro p hp
  obtain ⟨b, hb, hp⟩ := List.mem_flatMap.1 hp
  exact rkL_fits _ (fun z hz => h b hb z (List.mem_of_mem_drop hz)) p hp
theorem allSeq_fits : ∀ (l : List (List Int)) (_ : ∀ b ∈ l, ∀ z ∈ b, Fits8 z), FitsU (allSeq l) := by
  intro l h
  rcases List.eq_nil_or_concat l with rfl | ⟨r, b, rfl⟩
  · unfold allSeq FitsU; simp
  · rw [List.concat_eq_append, allSeq_snoc]
    exact rkSeq_fits (h b (by simp))
theorem flatMap_congr' {α β : Type} {f g : α → List β} {l : List α} (h : ∀ x ∈ l, f x = g x) : l.flatMap f = l.flatMap g := by
  induction l with
  | nil => rfl
  | cons a r ih => rw [List.flatMap_cons, List.flatMap_cons, h a (by simp), ih (fun x hx => h x (by simp [hx]))]
theorem read_ck {s : Sh} {seq : Int} {ps : List Pl} (hs : FitsU seq) (hn : ∀ p ∈ ps, FitsN p.1) (hz : ckE s ps = 0) {i : Nat} (hi : i < mK s ps) :
    let b := ckB s.b.toNat (i : Nat) (mK s ps : Nat) seq (partK (roomN s) i ps)
    rkM b = 1129009236 ∧ rkI b = i ∧ rkH b = (mK s ps : Nat) ∧ rkSeq b = seq ∧ rkN b = ((partK (roomN s) i ps).length : Nat) ∧ rkPs b = partK (roomN s) i ps ∧ b.length = s.b.toNat := by
  obtain ⟨hg, hm⟩ := ckE_zero.1 hz
  have hr := roomN_pos hg.1
  have hzb : s.zb ≤ 4096 := hg.1.2.2.2.1
  have hl := partK_length_le (roomN s) i ps
  obtain ⟨h1, h2, h3, h4, h5, h6⟩ := rk_ck (N := s.b.toNat) (i := (i : Nat)) (m := (mK s ps : Nat)) (seq := seq) (ps := partK (roomN s) i ps) (by unfold Fits32; omega) (by unfold Fits32; omega) hs (fun p hp => good_fit2 hg hn p (part_mem hp)) (by omega)
  exact ⟨h1, h2, h3, h4, h5, h6, ckB_length (by omega)⟩
/-- Decode of Encode is the state. -/
theorem isK_enc {s : Sh} {seq : Int} {ps : List Pl} (hs : FitsU seq) (hn : ∀ p ∈ ps, FitsN p.1) (hz : ckE s ps = 0) : IsK s (ckL s seq ps) ∧ allSeq (ckL s seq ps) = seq ∧ allPs (ckL s seq ps) = ps := by
  obtain ⟨hg, hm⟩ := ckE_zero.1 hz
  have hr := roomN_pos hg.1
  have e1 : allPs (ckL s seq ps) = ps := by
    unfold allPs ckL
    rw [List.flatMap_map, flatMap_congr' (g := fun i => partK (roomN s) i ps) (fun i hi => (read_ck hs hn hz (List.mem_range.1 hi)).2.2.2.2.2.1), parts_all]
    exact List.take_of_length_le (manyN_all (r := roomN s) (n := ps.length) (by omega))
  have e2 : allSeq (ckL s seq ps) = seq := by
    have h1 := mK_pos s ps
    obtain ⟨k, hk⟩ : ∃ k, mK s ps = k + 1 := ⟨mK s ps - 1, by omega⟩
    have e : ckL s seq ps = (List.range k).map (fun i : Nat => ckB s.b.toNat i (mK s ps : Nat) seq (partK (roomN s) i ps)) ++ [ckB s.b.toNat (k : Nat) (mK s ps : Nat) seq (partK (roomN s) k ps)] := by
      unfold ckL
      conv => lhs; rw [show List.range (mK s ps) = List.range k ++ [k] from by rw [hk, List.range_succ]]
      rw [List.map_append]
      rfl
    rw [e, allSeq_snoc]
    exact (read_ck hs hn hz (by omega)).2.2.2.1
  exact ⟨⟨by rw [e1]; exact hz, by rw [e1, e2]⟩, e2, e1⟩
section
variable {s : Sh} {l : List (List Int)}
/-- Each block of a state: its numbers, its sum. -/
theorem IsK.each (h : IsK s l) (hf : ∀ b ∈ l, ∀ z ∈ b, Fits8 z) {i : Nat} {b : List Int} (hb : l[i]? = some b) :
    rkM b = 1129009236 ∧ rkI b = i ∧ rkH b = (l.length : Nat) ∧ rkSeq b = allSeq l ∧ (rkN b).toNat ≤ roomN s ∧ rkPs b = partK (roomN s) i (allPs l) ∧ b.length = s.b.toNat ∧ b = joinL (stripL b) := by
  have hlen : l.length = mK s (allPs l) := by
    have := congrArg List.length h.2
    rw [ckL_length] at this
    exact this.symm
  have hi : i < mK s (allPs l) := by rw [← hlen]; exact (List.getElem?_eq_some_iff.1 hb).1
  have hr := read_ck (allSeq_fits l hf) (fun p hp => (allPs_fits hf p hp).1) h.1 hi
  have hbe : b = ckB s.b.toNat (i : Nat) (mK s (allPs l) : Nat) (allSeq l) (partK (roomN s) i (allPs l)) := by
    have := ckL_at (seq := allSeq l) hi
    rw [h.2, hb] at this
    exact Option.some.inj this
  obtain ⟨h1, h2, h3, h4, h5, h6, h7⟩ := hr
  rw [← hbe] at h1 h2 h3 h4 h5 h6 h7
  refine ⟨h1, h2, by rw [h3, hlen], h4, ?_, h6, h7, by rw [hbe]; exact ckB_join⟩
  rw [h5]
  have := partK_length_le (roomN s) i (allPs l)
  omega
theorem IsK.length (h : IsK s l) : l.length = mK s (allPs l) := by
  have := congrArg List.length h.2
  rw [ckL_length] at this
  exact this.symm
theorem IsK.pos (h : IsK s l) : 1 ≤ l.length := by rw [h.length]; exact mK_pos _ _
/-- A part of a state's blocks is none. -/
theorem IsK.other (h : IsK s l) (hf : ∀ b ∈ l, ∀ z ∈ b, Fits8 z) {l' : List (List Int)} (hs : ∀ b ∈ l', b ∈ l) (hn : l'.length ≠ l.length) : ¬ IsK s l' := by
  intro h'
  have h1 := h'.pos
  obtain ⟨b, hb⟩ : ∃ b, l'[0]? = some b := ⟨_, List.getElem?_eq_getElem (by omega)⟩
  have e1 := (h'.each (fun c hc => hf c (hs c hc)) hb).2.2.1
  obtain ⟨j, hj⟩ := List.getElem?_of_mem (hs b (List.mem_of_getElem? hb))
  have e2 := (h.each hf hj).2.2.1
  rw [e1] at e2
  omega
/-- Two states' blocks that are alike are of one state. -/
theorem IsK.back (h : IsK s l) : ckL s (allSeq l) (allPs l) = l := h.2
end
theorem join_sum {b : List Int} (h8 : 8 ≤ b.length) (h : b = joinL (stripL b)) : ((b.drop 4).take 4) = bigI 4 (crI 0 (stripL b)) := by
  have h8' : 8 ≤ (stripL b).length := by rw [strip_length h8]; exact h8
  have := join_mid h8'
  rw [← h] at this
  exact this
/-- Bytes of which one is another one do not both hold their sum. -/
theorem join_one {bs : List Int} (h8 : 8 ≤ bs.length) (h : bs = joinL (stripL bs)) (hf : ∀ z ∈ bs, Fits8 z) {i : Nat} (hi : i < bs.length) {c : Int} (hc : Fits8 c) (hne : c ≠ bs[i]) : bs.set i c ≠ joinL (stripL (bs.set i c)) := by
  intro h'
  by_cases hm : 4 ≤ i ∧ i < 8
  · have e : stripL (bs.set i c) = stripL bs := by
      unfold stripL
      rw [List.take_set_of_le (by omega), List.drop_set_of_lt (by omega)]
    rw [e, ← h] at h'
    have e2 : (bs.set i c)[i]? = bs[i]? := by rw [h']
    rw [List.getElem?_set_self hi, List.getElem?_eq_getElem hi] at e2
    exact hne (by simpa using e2)
  · have e : stripL (bs.set i c) = (stripL bs).set i c := by
      apply List.ext_getElem?
      intro j
      by_cases hj : j < 4 ∨ 8 ≤ j
      · rw [strip_get (by simp; omega) hj]
        by_cases eij : i = j
        · subst eij
          rw [List.getElem?_set_self hi, List.getElem?_set_self (by rw [strip_length h8]; exact hi)]
        · rw [List.getElem?_set_ne eij, List.getElem?_set_ne eij, strip_get h8 hj]
      · rw [List.getElem?_set_ne (by omega)]
        have : ∀ l : List Int, 8 ≤ l.length → (stripL l)[j]? = some 0 := by
          intro l hl
          unfold stripL
          rw [List.getElem?_append_right (by simp; omega), List.getElem?_append_left (by simp; omega)]
          have hj2 : j - (l.take 4).length < 4 := by simp; omega
          generalize j - (l.take 4).length = m at hj2
          match m, hj2 with
          | 0, _ => rfl
          | 1, _ => rfl
          | 2, _ => rfl
          | 3, _ => rfl
        rw [this _ (by simp; omega), this _ h8]
    have s1 := join_sum (by simpa using h8) h'
    have s2 := join_sum h8 h
    have em : ((bs.set i c).drop 4).take 4 = (bs.drop 4).take 4 := by
      apply List.ext_getElem?
      intro j
      rw [List.getElem?_take, List.getElem?_take]
      split
      · rw [List.getElem?_drop, List.getElem?_drop, List.getElem?_set_ne (by omega)]
      · rfl
    rw [em, s2, e] at s1
    have hi' : i < (stripL bs).length := by rw [strip_length h8]; exact hi
    have hsf := strip_fits hf
    have c1 : Fits32 (crI 0 (stripL bs)) := crI_fits fits0 hsf
    have c2 : Fits32 (crI 0 ((stripL bs).set i c)) := crI_fits fits0 (fun z hz => by
      rcases List.mem_or_eq_of_mem_set hz with h | h
      · exact hsf z h
      · rw [h]; exact hc)
    have s3 := congrArg numI s1
    rw [numI_of c1.1 c1.2, numI_of c2.1 c2.2] at s3
    have := set_other_sum hi' hsf hc s3.symm
    have e3 := strip_get h8 (i := i) (by omega)
    rw [List.getElem?_eq_getElem hi', List.getElem?_eq_getElem hi] at e3
    exact hne (by rw [this]; simpa using e3)
/-- A state's blocks of which one byte is another one are none. -/
theorem IsK.one {s : Sh} {l : List (List Int)} (h : IsK s l) (hf : ∀ b ∈ l, ∀ z ∈ b, Fits8 z) {at_ i : Nat} {b : List Int} (hb : l[at_]? = some b) (hi : i < b.length) {c : Int} (hc : Fits8 c) (hne : c ≠ b[i]) : ¬ IsK s (l.set at_ (b.set i c)) := by
  intro h'
  have hat : at_ < l.length := (List.getElem?_eq_some_iff.1 hb).1
  have hg := (ckE_zero.1 h.1).1.1
  have h1 := h.each hf hb
  have hbf : ∀ z ∈ b.set i c, Fits8 z := fun z hz => by
    rcases List.mem_or_eq_of_mem_set hz with h | h
    · exact hf b (List.mem_of_getElem? hb) z h
    · rw [h]; exact hc
  have h2 := h'.each (i := at_) (b := b.set i c) (fun b' hb' => by
    rcases List.mem_or_eq_of_mem_set hb' with h | h
    · exact hf b' h
    · rw [h]; exact hbf) (by rw [List.getElem?_set_self hat])
  have h8 : 8 ≤ b.length := by
    have := pow_bounds (show s.b ∈ PowR from hg.2.2.2.2.1)
    rw [h1.2.2.2.2.2.2.1]; omega
  exact join_one h8 h1.2.2.2.2.2.2.2 (hf b (List.mem_of_getElem? hb)) hi hc hne h2.2.2.2.2.2.2.2
/-- The last byte of a state's block. -/
theorem IsK.last {s : Sh} {l : List (List Int)} (h : IsK s l) (hf : ∀ b ∈ l, ∀ z ∈ b, Fits8 z) {i : Nat} {b : List Int} (hb : l[i]? = some b) : b.getLast? = some 231 := by
  have hlt : i < mK s (allPs l) := by rw [← h.length]; exact (List.getElem?_eq_some_iff.1 hb).1
  have hbe : b = ckB s.b.toNat (i : Nat) (mK s (allPs l) : Nat) (allSeq l) (partK (roomN s) i (allPs l)) := by
    have := ckL_at (seq := allSeq l) hlt
    rw [h.2, hb] at this
    exact Option.some.inj this
  have hd := ckB_drop (N := s.b.toNat) (i := (i : Nat)) (m := (mK s (allPs l) : Nat)) (seq := allSeq l) (ps := partK (roomN s) i (allPs l)) (j := 26) (by omega)
  rw [← hbe, ckP_drop26, ← List.append_assoc] at hd
  conv => lhs; rw [← List.take_append_drop 26 b, hd]
  rw [← List.append_assoc, List.getLast?_append]
  rfl
end Go.Proofs.Yteokhkoaieibmaa
