/- P7 -/
import Derived.OwnWalk
import Derived.Lib.EndianBits
import Derived.Test.YtcdnjeiamihhbabGreatP6
set_option linter.unusedVariables false
set_option maxRecDepth 4000
namespace Go.Proofs.YtcdnjeiamihhbabGreat
open Go.RowKit
section
abbrev Pr := Int × Int
/-- A block's name and its place. -/
abbrev Pl := Pr × Pr
def I64 (z : Int) : Prop := -9223372036854775808 ≤ z ∧ z < 9223372036854775808
def FitsN (x : Pr) : Prop := Fits32 x.1 ∧ FitsU x.2
def FitsS (x : Pr) : Prop := I64 x.1 ∧ I64 x.2
def FitsP (p : Pl) : Prop := FitsN p.1 ∧ FitsS p.2
def ltP (x y : Pr) : Bool := decide (x.1 < y.1 ∨ (x.1 = y.1 ∧ x.2 < y.2))
theorem ltP_iff (x y : Pr) : ltP x y = true ↔ (x.1 < y.1 ∨ (x.1 = y.1 ∧ x.2 < y.2)) := by unfold ltP; simp
/-! ### One block -/
def hkW : List Int := [4, 4, 4, 4, 8, 2]
def plW : List Int := [4, 8, 2, 2]
def plV (p : Pl) : List Int := [p.1.1, p.1.2, p.2.1, p.2.2]
def hkV (i m seq n : Int) : List Int := [1129009236, 0, i, m, seq, n]
def plB (p : Pl) : List Int := packL plW (plV p)
def hkB (i m seq n : Int) : List Int := packL hkW (hkV i m seq n)
theorem plB_eq (p : Pl) : plB p = bigI 4 p.1.1 ++ (bigI 8 p.1.2 ++ (bigI 2 p.2.1 ++ bigI 2 p.2.2)) := by simp [plB, plW, plV, packL, wd]
theorem hkB_eq (i m seq n : Int) : hkB i m seq n = bigI 4 1129009236 ++ (bigI 4 0 ++ (bigI 4 i ++ (bigI 4 m ++ (bigI 8 seq ++ bigI 2 n)))) := by simp [hkB, hkW, hkV, packL, wd]
theorem plB_length (p : Pl) : (plB p).length = 16 := by simp [plB_eq, bigI_length]
theorem hkB_length (i m seq n : Int) : (hkB i m seq n).length = 26 := by simp [hkB_eq, bigI_length]
theorem plB_fits (p : Pl) : ∀ z ∈ plB p, Fits8 z := packL_fits _ _
theorem hkB_fits (i m seq n : Int) : ∀ z ∈ hkB i m seq n, Fits8 z := packL_fits _ _
def plsB (ps : List Pl) : List Int := ps.flatMap plB
theorem plsB_snoc (ps : List Pl) (p : Pl) : plsB (ps ++ [p]) = plsB ps ++ plB p := by simp [plsB]
theorem plsB_length (ps : List Pl) : (plsB ps).length = 16 * ps.length := by
 induction ps with
 | nil => rfl
 | cons p r ih =>
  have e : plsB (p :: r) = plB p ++ plsB r := by simp [plsB]
  rw [e, List.length_append, plB_length, ih, List.length_cons]; omega
theorem plsB_fits (ps : List Pl) : ∀ z ∈ plsB ps, Fits8 z := by
 intro z hz
 obtain ⟨p, _, hp⟩ := List.mem_flatMap.1 hz
 exact plB_fits p z hp
def frontK (i m seq : Int) (ps : List Pl) : List Int := hkB i m seq ps.length ++ plsB ps
theorem frontK_length (i m seq : Int) (ps : List Pl) : (frontK i m seq ps).length = 26 + 16 * ps.length := by rw [frontK, List.length_append, hkB_length, plsB_length]
/-- The block with 00 in its sum's place. -/
def ckP (N : Nat) (i m seq : Int) (ps : List Pl) : List Int := frontK i m seq ps ++ List.replicate (N - 1 - (26 + 16 * ps.length)) 0 ++ [231]
def ckB (N : Nat) (i m seq : Int) (ps : List Pl) : List Int := joinL (ckP N i m seq ps)
section
variable {N : Nat} {i m seq : Int} {ps : List Pl}
theorem ckP_eq : ckP N i m seq ps = bigI 4 1129009236 ++ (bigI 4 0 ++ (bigI 4 i ++ (bigI 4 m ++ (bigI 8 seq ++ (bigI 2 ps.length ++ (plsB ps ++ (List.replicate (N - 1 - (26 + 16 * ps.length)) 0 ++ [231]))))))) := by simp [ckP, frontK, hkB_eq]
theorem ckP_length (h : 27 + 16 * ps.length ≤ N) : (ckP N i m seq ps).length = N := by
 simp only [ckP, List.length_append, frontK_length, List.length_replicate, List.length_singleton]; omega
theorem ckP_fits : ∀ z ∈ ckP N i m seq ps, Fits8 z := by
 intro z hz
 simp only [ckP, frontK, List.mem_append, List.mem_replicate, List.mem_singleton] at hz
 rcases hz with ((h | h) | ⟨_, h⟩) | h
 ·exact hkB_fits _ _ _ _ z h
 ·exact plsB_fits _ z h
 ·subst h; unfold Fits8; omega
 ·subst h; unfold Fits8; omega
theorem ckP_zero : ((ckP N i m seq ps).drop 4).take 4 = [0, 0, 0, 0] := by
 rw [ckP_eq, List.drop_left' (bigI_length _ _), List.take_left' (bigI_length _ _), big40]
theorem ckP_eight : 8 ≤ (ckP N i m seq ps).length := by
 simp only [ckP, List.length_append, frontK_length]; omega
theorem ckB_length (h : 27 + 16 * ps.length ≤ N) : (ckB N i m seq ps).length = N := by rw [ckB, join_length ckP_eight, ckP_length h]
theorem ckB_fits : ∀ z ∈ ckB N i m seq ps, Fits8 z := join_fits ckP_fits
theorem strip_ck : stripL (ckB N i m seq ps) = ckP N i m seq ps := strip_join ckP_eight ckP_zero
theorem ckB_join : ckB N i m seq ps = joinL (stripL (ckB N i m seq ps)) := by rw [strip_ck]; rfl
theorem ckB_drop {j : Nat} (hj : 8 ≤ j) : (ckB N i m seq ps).drop j = (ckP N i m seq ps).drop j := by
 obtain ⟨k, rfl⟩ : ∃ k, j = 8 + k := ⟨j - 8, by omega⟩
 rw [← List.drop_drop, ← List.drop_drop, ckB, join_drop ckP_eight]
theorem ckP_drop8 : (ckP N i m seq ps).drop 8 = bigI 4 i ++ (bigI 4 m ++ (bigI 8 seq ++ (bigI 2 ps.length ++ (plsB ps ++ (List.replicate (N - 1 - (26 + 16 * ps.length)) 0 ++ [231]))))) := by
 rw [ckP_eq, show (8 : Nat) = 4 + 4 from rfl, ← List.drop_drop, List.drop_left' (bigI_length _ _), List.drop_left' (bigI_length _ _)]
theorem ckP_drop12 : (ckP N i m seq ps).drop 12 = bigI 4 m ++ (bigI 8 seq ++ (bigI 2 ps.length ++ (plsB ps ++ (List.replicate (N - 1 - (26 + 16 * ps.length)) 0 ++ [231])))) := by
 rw [show (12 : Nat) = 8 + 4 from rfl, ← List.drop_drop, ckP_drop8, List.drop_left' (bigI_length _ _)]
theorem ckP_drop16 : (ckP N i m seq ps).drop 16 = bigI 8 seq ++ (bigI 2 ps.length ++ (plsB ps ++ (List.replicate (N - 1 - (26 + 16 * ps.length)) 0 ++ [231]))) := by
 rw [show (16 : Nat) = 12 + 4 from rfl, ← List.drop_drop, ckP_drop12, List.drop_left' (bigI_length _ _)]
theorem ckP_drop24 : (ckP N i m seq ps).drop 24 = bigI 2 ps.length ++ (plsB ps ++ (List.replicate (N - 1 - (26 + 16 * ps.length)) 0 ++ [231])) := by
 rw [show (24 : Nat) = 16 + 8 from rfl, ← List.drop_drop, ckP_drop16, List.drop_left' (bigI_length _ _)]
theorem ckP_drop26 : (ckP N i m seq ps).drop 26 = plsB ps ++ (List.replicate (N - 1 - (26 + 16 * ps.length)) 0 ++ [231]) := by
 rw [show (26 : Nat) = 24 + 2 from rfl, ← List.drop_drop, ckP_drop24, List.drop_left' (bigI_length _ _)]
end
/-! ### What is read -/
def rkM (bs : List Int) : Int := numI (bs.take 4)
def rkS (bs : List Int) : Int := numI ((bs.drop 4).take 4)
def rkI (bs : List Int) : Int := numI ((bs.drop 8).take 4)
def rkH (bs : List Int) : Int := numI ((bs.drop 12).take 4)
def rkSeq (bs : List Int) : Int := numI ((bs.drop 16).take 8)
def rkN (bs : List Int) : Int := numI ((bs.drop 24).take 2)
def rkP (ys : List Int) : Pl := ((numI (ys.take 4), numI ((ys.drop 4).take 8)), (numI ((ys.drop 12).take 2), numI ((ys.drop 14).take 2)))
def rkL : Nat → List Int → List Pl
 | 0, _ => []
 | n + 1, ys => rkP ys :: rkL n (ys.drop 16)
theorem rkL_length : ∀ (n : Nat) (ys : List Int), (rkL n ys).length = n
 | 0, _ => rfl
 | n + 1, ys => by simp [rkL, rkL_length n]
theorem rkL_snoc : ∀ (n : Nat) (ys : List Int), rkL (n + 1) ys = rkL n ys ++ [rkP (ys.drop (16 * n))]
 | 0, ys => by simp [rkL]
 | n + 1, ys => by
  show rkP ys :: rkL (n + 1) (ys.drop 16) = _
  rw [rkL_snoc n, List.drop_drop]
  have e : 16 * (n + 1) = 16 + 16 * n := by omega
  rw [e]
  rfl
def rkPs (bs : List Int) : List Pl := rkL (rkN bs).toNat (bs.drop 26)
theorem val_hk (bs : List Int) : valL bs hkW = [rkM bs, rkS bs, rkI bs, rkH bs, rkSeq bs, rkN bs] := by
 simp [valL, hkW, wd, rkM, rkS, rkI, rkH, rkSeq, rkN, List.drop_drop]
theorem val_pl (ys : List Int) : valL ys plW = plV (rkP ys) := by
 simp [valL, plW, wd, rkP, plV, List.drop_drop]
theorem off_hk : offL hkW = 26 := by decide
theorem off_pl : offL plW = 16 := by decide
/-- What stands in a block's bytes: numbers of two bytes. -/
def Fit2 (p : Pl) : Prop := FitsN p.1 ∧ Fits16 p.2.1 ∧ Fits16 p.2.2
theorem Fit2.fits {p : Pl} (h : Fit2 p) : FitsP p := by
 obtain ⟨h1, h2, h3⟩ := h
 unfold Fits16 at h2 h3
 exact ⟨h1, by unfold I64; omega, by unfold I64; omega⟩
theorem rkP_fits {ys : List Int} (h : ∀ z ∈ ys, Fits8 z) : Fit2 (rkP ys) := by
 have a := numI_small (n := 4) (part_len ys 0 4) (fits_part h 0 4)
 have b := numI_small (n := 8) (part_len ys 4 8) (fits_part h 4 8)
 have c := numI_small (n := 2) (part_len ys 12 2) (fits_part h 12 2)
 have d := numI_small (n := 2) (part_len ys 14 2) (fits_part h 14 2)
 exact ⟨⟨a, b⟩, c, d⟩
theorem rkL_fits : ∀ (n : Nat) {ys : List Int}, (∀ z ∈ ys, Fits8 z) → ∀ x ∈ rkL n ys, Fit2 x
 | 0, _, _, x, hx => by simp [rkL] at hx
 | n + 1, ys, h, x, hx => by
  simp only [rkL, List.mem_cons] at hx
  rcases hx with rfl | hx
  ·exact rkP_fits h
  ·exact rkL_fits n (fun z hz => h z (List.mem_of_mem_drop hz)) x hx
theorem rkSeq_fits {bs : List Int} (h : ∀ z ∈ bs, Fits8 z) : FitsU (rkSeq bs) := numI_small (n := 8) (part_len bs 16 8) (fits_part h 16 8)
theorem rkN_fits {bs : List Int} (h : ∀ z ∈ bs, Fits8 z) : Fits16 (rkN bs) := numI_small (n := 2) (part_len bs 24 2) (fits_part h 24 2)
theorem rkP_pl {p : Pl} (h : Fit2 p) (more : List Int) : rkP (plB p ++ more) = p := by
 obtain ⟨⟨h1, h2⟩, h3, h4⟩ := h
 have e : plB p ++ more = bigI 4 p.1.1 ++ (bigI 8 p.1.2 ++ (bigI 2 p.2.1 ++ (bigI 2 p.2.2 ++ more))) := by rw [plB_eq]; simp
 have d4 : (plB p ++ more).drop 4 = bigI 8 p.1.2 ++ (bigI 2 p.2.1 ++ (bigI 2 p.2.2 ++ more)) := by rw [e, List.drop_left' (bigI_length _ _)]
 have d12 : (plB p ++ more).drop 12 = bigI 2 p.2.1 ++ (bigI 2 p.2.2 ++ more) := by
  rw [show (12 : Nat) = 4 + 8 from rfl, ← List.drop_drop, d4, List.drop_left' (bigI_length _ _)]
 have d14 : (plB p ++ more).drop 14 = bigI 2 p.2.2 ++ more := by
  rw [show (14 : Nat) = 12 + 2 from rfl, ← List.drop_drop, d12, List.drop_left' (bigI_length _ _)]
 unfold rkP
 rw [d4, d12, d14, e]
 simp only [List.take_left' (bigI_length _ _)]
 rw [numI_of h1.1 h1.2, numI_of h2.1 h2.2, numI_of h3.1 h3.2, numI_of h4.1 h4.2]
theorem rkL_pls : ∀ (ps : List Pl) (more : List Int), (∀ x ∈ ps, Fit2 x) → rkL ps.length (plsB ps ++ more) = ps
 | [], _, _ => rfl
 | p :: ps, more, h => by
  have e : plsB (p :: ps) ++ more = plB p ++ (plsB ps ++ more) := by simp [plsB]
  show rkP _ :: rkL ps.length _ = _
  rw [e, rkP_pl (h p (by simp)), List.drop_left' (plB_length _), rkL_pls ps more (fun y hy => h y (by simp [hy]))]
theorem rk_ck {N : Nat} {i m seq : Int} {ps : List Pl} (hi : Fits32 i) (hm : Fits32 m) (hs : FitsU seq) (hp : ∀ x ∈ ps, Fit2 x) (hn : ps.length ≤ 60000) :
  rkM (ckB N i m seq ps) = 1129009236 ∧ rkI (ckB N i m seq ps) = i ∧ rkH (ckB N i m seq ps) = m ∧ rkSeq (ckB N i m seq ps) = seq ∧ rkN (ckB N i m seq ps) = ps.length ∧ rkPs (ckB N i m seq ps) = ps := by
 have hN : rkN (ckB N i m seq ps) = ps.length := by
  unfold rkN
  have h2 : (256 : Int) ^ 2 = 65536 := by decide
  rw [ckB_drop (by omega), ckP_drop24, List.take_left' (bigI_length _ _), numI_of (by omega) (by omega)]
 refine ⟨?_, ?_, ?_, ?_, hN, ?_⟩
 ·unfold rkM
  rw [ckB, join_take ckP_eight, ckP_eq, List.take_left' (bigI_length _ _)]
  decide
 ·unfold rkI
  rw [ckB_drop (by omega), ckP_drop8, List.take_left' (bigI_length _ _), numI_of hi.1 hi.2]
 ·unfold rkH
  rw [ckB_drop (by omega), ckP_drop12, List.take_left' (bigI_length _ _), numI_of hm.1 hm.2]
 ·unfold rkSeq
  rw [ckB_drop (by omega), ckP_drop16, List.take_left' (bigI_length _ _), numI_of hs.1 hs.2]
 ·unfold rkPs
  rw [hN, ckB_drop (by omega), ckP_drop26, Int.toNat_natCast, rkL_pls _ _ hp]
/-! ### A state as blocks -/
def roomK (b : Int) : Int := if b ∈ PowR then (b - 27) / 16 else 0
theorem roomK_pow {b : Int} (h : b ∈ PowR) : 2 ≤ roomK b ∧ 27 + 16 * roomK b ≤ b ∧ roomK b ≤ 254 := by
 have := pow_bounds h
 unfold roomK
 rw [if_pos h]
 omega
def Rises (ps : List Pl) : Prop := ∀ i p q, ps[i]? = some p → ps[i + 1]? = some q → ltP p.1 q.1 = true
def InSh (s : Sh) (p : Pl) : Prop := 2 ≤ p.2.1 ∧ p.2.1 < s.z ∧ 0 ≤ p.2.2 ∧ p.2.2 < s.zb
def GoodK (s : Sh) (ps : List Pl) : Prop := RightS s ∧ Rises ps ∧ ∀ p ∈ ps, InSh s p
def roomN (s : Sh) : Nat := (roomK s.b).toNat
def manyN (r n : Nat) : Nat := max 1 ((n + r - 1) / r)
def partK (r i : Nat) (ps : List Pl) : List Pl := (ps.drop (i * r)).take r
def mK (s : Sh) (ps : List Pl) : Nat := manyN (roomN s) ps.length
def ckL (s : Sh) (seq : Int) (ps : List Pl) : List (List Int) := (List.range (mK s ps)).map fun i : Nat => ckB s.b.toNat i (mK s ps : Nat) seq (partK (roomN s) i ps)
open Classical in
/-- Encode's error, and what it tells. -/
noncomputable def ckE (s : Sh) (ps : List Pl) : Int := if GoodK s ps then (if (mK s ps : Int) ≤ s.zb then 0 else 140) else 141
open Classical in
noncomputable def ckO (s : Sh) (seq : Int) (ps : List Pl) : List (List Int) := if ckE s ps = 0 then ckL s seq ps else []
theorem ckE_zero {s : Sh} {ps : List Pl} : ckE s ps = 0 ↔ GoodK s ps ∧ (mK s ps : Int) ≤ s.zb := by
 unfold ckE
 split
 ·split
  ·simp [*]
  ·simp [*]
 ·simp [*]
theorem roomN_pos {s : Sh} (h : RightS s) : 2 ≤ roomN s ∧ 27 + 16 * roomN s ≤ s.b.toNat ∧ roomN s ≤ 254 := by
 have hb : s.b ∈ PowR := h.2.2.2.2.1
 have h1 := roomK_pow hb
 have h2 := pow_bounds hb
 unfold roomN
 omega
theorem mK_pos (s : Sh) (ps : List Pl) : 1 ≤ mK s ps := by unfold mK manyN; omega
theorem manyN_all {r n : Nat} (hr : 0 < r) : n ≤ manyN r n * r := by
 have h1 := Nat.div_add_mod (n + r - 1) r
 have h2 := Nat.mod_lt (n + r - 1) hr
 have h3 : (n + r - 1) / r ≤ manyN r n := by unfold manyN; omega
 have h4 : (n + r - 1) / r * r ≤ manyN r n * r := Nat.mul_le_mul_right r h3
 rw [Nat.mul_comm] at h1
 omega
theorem partK_length_le (r i : Nat) (ps : List Pl) : (partK r i ps).length ≤ r := by unfold partK; rw [List.length_take]; omega
theorem parts_all (r : Nat) (ps : List Pl) : ∀ m : Nat, (List.range m).flatMap (fun i => partK r i ps) = ps.take (m * r)
 | 0 => by simp
 | m + 1 => by
  rw [List.range_succ, List.flatMap_append, parts_all r ps m]
  have e : (m + 1) * r = m * r + r := Nat.succ_mul m r
  rw [e, List.take_add]
  simp [partK]
theorem ckL_length (s : Sh) (seq : Int) (ps : List Pl) : (ckL s seq ps).length = mK s ps := by simp [ckL]
theorem ckL_at {s : Sh} {seq : Int} {ps : List Pl} {i : Nat} (h : i < mK s ps) : (ckL s seq ps)[i]? = some (ckB s.b.toNat i (mK s ps : Nat) seq (partK (roomN s) i ps)) := by
 unfold ckL
 rw [List.getElem?_map, List.getElem?_range h]
 rfl
theorem ckL_mem {s : Sh} {seq : Int} {ps : List Pl} {b : List Int} (h : b ∈ ckL s seq ps) : ∃ i, i < mK s ps ∧ b = ckB s.b.toNat (i : Nat) (mK s ps : Nat) seq (partK (roomN s) i ps) := by
 unfold ckL at h
 obtain ⟨i, hi, rfl⟩ := List.mem_map.1 h
 exact ⟨i, List.mem_range.1 hi, rfl⟩
theorem good_fit2 {s : Sh} {ps : List Pl} (h : GoodK s ps) (hn : ∀ p ∈ ps, FitsN p.1) : ∀ p ∈ ps, Fit2 p := by
 intro p hp
 have h1 := h.2.2 p hp
 have h2 := h.1
 unfold InSh at h1
 unfold RightS at h2
 exact ⟨hn p hp, by unfold Fits16; omega, by unfold Fits16; omega⟩
theorem part_mem {r i : Nat} {ps : List Pl} {p : Pl} (h : p ∈ partK r i ps) : p ∈ ps := List.mem_of_mem_drop (List.mem_of_mem_take h)
/-! ### Are blocks a state? -/
def allPs (l : List (List Int)) : List Pl := l.flatMap rkPs
def allSeq (l : List (List Int)) : Int := l.foldl (fun _ b => rkSeq b) 0
theorem allPs_snoc (l : List (List Int)) (b : List Int) : allPs (l ++ [b]) = allPs l ++ rkPs b := by simp [allPs]
theorem allSeq_snoc (l : List (List Int)) (b : List Int) : allSeq (l ++ [b]) = rkSeq b := by simp [allSeq]
def IsK (s : Sh) (l : List (List Int)) : Prop := ckE s (allPs l) = 0 ∧ ckL s (allSeq l) (allPs l) = l
theorem allPs_fits {l : List (List Int)} (h : ∀ b ∈ l, ∀ z ∈ b, Fits8 z) : ∀ p ∈ allPs l, Fit2 p := by
 intro p hp
 obtain ⟨b, hb, hp⟩ := List.mem_flatMap.1 hp
 exact rkL_fits _ (fun z hz => h b hb z (List.mem_of_mem_drop hz)) p hp
theorem allSeq_fits : ∀ (l : List (List Int)) (_ : ∀ b ∈ l, ∀ z ∈ b, Fits8 z), FitsU (allSeq l) := by
 intro l h
 rcases List.eq_nil_or_concat l with rfl | ⟨r, b, rfl⟩
 ·unfold allSeq FitsU; simp
 ·rw [List.concat_eq_append, allSeq_snoc]
  exact rkSeq_fits (h b (by simp))
theorem flatMap_congr' {α β : Type} {f g : α → List β} {l : List α} (h : ∀ x ∈ l, f x = g x) : l.flatMap f = l.flatMap g := by
 induction l with
 | nil => rfl
 | cons a r ih => rw [List.flatMap_cons, List.flatMap_cons, h a (by simp), ih (fun x hx => h x (by simp [hx]))]
theorem read_ck {s : Sh} {seq : Int} {ps : List Pl} (hs : FitsU seq) (hn : ∀ p ∈ ps, FitsN p.1) (hz : ckE s ps = 0) {i : Nat} (hi : i < mK s ps) :
  let b := ckB s.b.toNat (i : Nat) (mK s ps : Nat) seq (partK (roomN s) i ps)
  rkM b = 1129009236 ∧ rkI b = i ∧ rkH b = (mK s ps : Nat) ∧ rkSeq b = seq ∧ rkN b = ((partK (roomN s) i ps).length : Nat) ∧ rkPs b = partK (roomN s) i ps ∧ b.length = s.b.toNat := by
 obtain ⟨hg, hm⟩ := ckE_zero.1 hz
 have hr := roomN_pos hg.1
 have hzb : s.zb ≤ 4096 := hg.1.2.2.2.1
 have hl := partK_length_le (roomN s) i ps
 obtain ⟨h1, h2, h3, h4, h5, h6⟩ := rk_ck (N := s.b.toNat) (i := (i : Nat)) (m := (mK s ps : Nat)) (seq := seq) (ps := partK (roomN s) i ps) (by unfold Fits32; omega) (by unfold Fits32; omega) hs (fun p hp => good_fit2 hg hn p (part_mem hp)) (by omega)
 exact ⟨h1, h2, h3, h4, h5, h6, ckB_length (by omega)⟩
/-- Decode of Encode is the state. -/
theorem isK_enc {s : Sh} {seq : Int} {ps : List Pl} (hs : FitsU seq) (hn : ∀ p ∈ ps, FitsN p.1) (hz : ckE s ps = 0) : IsK s (ckL s seq ps) ∧ allSeq (ckL s seq ps) = seq ∧ allPs (ckL s seq ps) = ps := by
 obtain ⟨hg, hm⟩ := ckE_zero.1 hz
 have hr := roomN_pos hg.1
 have e1 : allPs (ckL s seq ps) = ps := by
  unfold allPs ckL
  rw [List.flatMap_map, flatMap_congr' (g := fun i => partK (roomN s) i ps) (fun i hi => (read_ck hs hn hz (List.mem_range.1 hi)).2.2.2.2.2.1), parts_all]
  exact List.take_of_length_le (manyN_all (r := roomN s) (n := ps.length) (by omega))
 have e2 : allSeq (ckL s seq ps) = seq := by
  have h1 := mK_pos s ps
  obtain ⟨k, hk⟩ : ∃ k, mK s ps = k + 1 := ⟨mK s ps - 1, by omega⟩
  have e : ckL s seq ps = (List.range k).map (fun i : Nat => ckB s.b.toNat i (mK s ps : Nat) seq (partK (roomN s) i ps)) ++ [ckB s.b.toNat (k : Nat) (mK s ps : Nat) seq (partK (roomN s) k ps)] := by
   unfold ckL
   conv => lhs; rw [show List.range (mK s ps) = List.range k ++ [k] from by rw [hk, List.range_succ]]
   rw [List.map_append]
   rfl
  rw [e, allSeq_snoc]
  exact (read_ck hs hn hz (by omega)).2.2.2.1
 exact ⟨⟨by rw [e1]; exact hz, by rw [e1, e2]⟩, e2, e1⟩
section
variable {s : Sh} {l : List (List Int)}
/-- Each block of a state: its numbers, its sum. -/
theorem IsK.each (h : IsK s l) (hf : ∀ b ∈ l, ∀ z ∈ b, Fits8 z) {i : Nat} {b : List Int} (hb : l[i]? = some b) :
  rkM b = 1129009236 ∧ rkI b = i ∧ rkH b = (l.length : Nat) ∧ rkSeq b = allSeq l ∧ (rkN b).toNat ≤ roomN s ∧ rkPs b = partK (roomN s) i (allPs l) ∧ b.length = s.b.toNat ∧ b = joinL (stripL b) := by
 have hlen : l.length = mK s (allPs l) := by
  have := congrArg List.length h.2
  rw [ckL_length] at this
  exact this.symm
 have hi : i < mK s (allPs l) := by rw [← hlen]; exact (List.getElem?_eq_some_iff.1 hb).1
 have hr := read_ck (allSeq_fits l hf) (fun p hp => (allPs_fits hf p hp).1) h.1 hi
 have hbe : b = ckB s.b.toNat (i : Nat) (mK s (allPs l) : Nat) (allSeq l) (partK (roomN s) i (allPs l)) := by
  have := ckL_at (seq := allSeq l) hi
  rw [h.2, hb] at this
  exact Option.some.inj this
 obtain ⟨h1, h2, h3, h4, h5, h6, h7⟩ := hr
 rw [← hbe] at h1 h2 h3 h4 h5 h6 h7
 refine ⟨h1, h2, by rw [h3, hlen], h4, ?_, h6, h7, by rw [hbe]; exact ckB_join⟩
 rw [h5]
 have := partK_length_le (roomN s) i (allPs l)
 omega
theorem IsK.length (h : IsK s l) : l.length = mK s (allPs l) := by
 have := congrArg List.length h.2
 rw [ckL_length] at this
 exact this.symm
end
end
def kInts (k : IntKind) (S : List Int) : List Value := S.map (Value.int k)
theorem kInts_length (k : IntKind) (L : List Int) : (kInts k L).length = L.length := by simp [kInts]
theorem kInts_one (k : IntKind) (L : List Int) : ∀ v ∈ kInts k L, v.oneCell' = true := by intro v hv; simp [kInts] at hv; obtain ⟨z, _, rfl⟩ := hv; rfl
/-- A list of numbers of a kind that lies in the world. -/
def NIn (k : IntKind) (w : World) (a : Option Addr) (len : Nat) (zs : List Int) : Prop :=
 zs.length = len ∧ len ≤ maxLen ∧ (∀ z ∈ zs, (Lit.int k z).wf = true) ∧
 (len = 0 ∨ ∃ b off, a = some ⟨b, off, none⟩ ∧ ∀ i, i < len → w.cell? ⟨b, off + i, none⟩ = some (.int k (zs.getD i 0)))
theorem NIn.below {k : IntKind} {w w' : World} {a : Option Addr} {len : Nat} {zs : List Int} (h : NIn k w a len zs) (hb : Below w.heap.size w w') : NIn k w' a len zs := by
 obtain ⟨h1, h2, h3, h4⟩ := h
 refine ⟨h1, h2, h3, ?_⟩
 rcases h4 with h4 | ⟨b, off, ha, hc⟩
 ·exact .inl h4
 ·exact .inr ⟨b, off, ha, fun i hi => by rw [hb.cell (old_block (hc i hi))]; exact hc i hi⟩
theorem new_nin {k : IntKind} {t : TypeId} {w : World} {g n : Nat} {L : List Int} {C : Array Value} {fr : Nat × Nat} (hk : w.heap.size = g) (hC : C = (kInts k L).toArray) (hn : L.length = n) (hf : ∀ z ∈ L, (Lit.int k z).wf = true) (hm : n ≤ maxLen) :
  NIn k (w.alloc (.cells C t fr)) (some ⟨g, 0, none⟩) n L := by
 subst hk; subst hC; subst hn
 refine ⟨rfl, hm, hf, .inr ⟨_, 0, rfl, fun i hi => ?_⟩⟩
 rw [Nat.zero_add, World.cell?_alloc_mark]
 simp [kInts, List.getD, hi]
theorem NIn.alloc {k : IntKind} {w : World} {a : Option Addr} {len : Nat} {zs : List Int} (h : NIn k w a len zs) (o : Obj) : NIn k (w.alloc o) a len zs := h.below ((Below.refl _ _).alloc (Nat.le_refl _) o)
theorem NIn.part {k : IntKind} {w : World} {b off len : Nat} {zs : List Int} (h : NIn k w (some ⟨b, off, none⟩) len zs) (i m : Nat) (hik : i + m ≤ len) : NIn k w (some ⟨b, off + i, none⟩) m ((zs.drop i).take m) := by
 obtain ⟨h1, h2, h3, h4⟩ := h
 refine ⟨by rw [List.length_take, List.length_drop, h1]; omega, by omega, fun z hz => h3 z (List.mem_of_mem_drop (List.mem_of_mem_take hz)), ?_⟩
 by_cases h0 : m = 0
 ·exact .inl h0
 ·obtain ⟨b', off', he, hc⟩ := h4.resolve_left (by omega)
  cases he
  refine .inr ⟨_, _, rfl, fun j hj => ?_⟩
  have := hc (i + j) (by omega)
  rw [Nat.add_assoc, this]
  simp [List.getD, hj]
/-- The front of a list. -/
theorem NIn.front {k : IntKind} {w : World} {a : Option Addr} {len : Nat} {zs : List Int} (h : NIn k w a len zs) (m : Nat) (hm : m ≤ len) : NIn k w a m (zs.take m) := by
 obtain ⟨h1, h2, h3, h4⟩ := h
 refine ⟨by rw [List.length_take, h1]; omega, by omega, fun z hz => h3 z (List.mem_of_mem_take hz), ?_⟩
 by_cases h0 : m = 0
 ·exact .inl h0
 ·obtain ⟨b', off', he, hc⟩ := h4.resolve_left (by omega)
  refine .inr ⟨_, _, he, fun j hj => ?_⟩
  rw [hc j (by omega)]
  simp [List.getD, hj]
/-- What stands behind the front of a list, by the word that slicing leaves. -/
theorem NIn.back {k : IntKind} {w : World} {a : Option Addr} {len c : Nat} {zs : List Int} (h : NIn k w a len zs) (i : Nat) (hi : i ≤ len) (hc : len ≤ c) : NIn k w (if c = i then a else a.map (·.add i)) (len - i) (zs.drop i) := by
 by_cases h0 : len - i = 0
 ·have h1 := h.1
  exact ⟨by rw [List.length_drop, h1], by omega, fun z hz => h.2.2.1 z (List.mem_of_mem_drop hz), .inl h0⟩
 ·obtain ⟨b, off, rfl, hcell⟩ := h.2.2.2.resolve_left (by omega)
  rw [if_neg (by omega)]
  have := NIn.part h i (len - i) (by omega)
  rw [List.take_of_length_le (by rw [List.length_drop, h.1]; exact Nat.le_refl _)] at this
  simpa [Addr.add_mid] using this
theorem num_fits {k : IntKind} {B : List Int} (h : ∀ z ∈ B, (Lit.int k z).wf = true) (i : Nat) (hi : i < B.length) : (Lit.int k (B.getD i 0)).wf = true := by
 have : B.getD i 0 = B[i] := by simp [List.getD, hi]
 rw [this]; exact h _ (List.getElem_mem hi)
theorem wf8 {z : Int} (h : Fits8 z) : (Lit.int .u8 z).wf = true := by
 unfold Fits8 at h
 simp [Lit.wf, IntKind.min, IntKind.max, IntKind.signed, IntKind.bits]
 omega
theorem wfU {z : Int} (h : FitsU z) : (Lit.int .u64 z).wf = true := by
 unfold FitsU at h
 simp [Lit.wf, IntKind.min, IntKind.max, IntKind.signed, IntKind.bits]
 omega
theorem fitsU {z : Int} (h : (Lit.int .u64 z).wf = true) : FitsU z := by have := bounds_u64 h; unfold FitsU; omega
theorem fits8 {z : Int} (h : (Lit.int .u8 z).wf = true) : Fits8 z := by have := bounds_u8 h; unfold Fits8; omega
theorem BIn.n {w : World} {a : Option Addr} {len : Nat} {zs : List Int} (h : BIn w a len zs) : NIn .u8 w a len zs := ⟨h.1, h.2.1, fun z hz => wf8 (h.2.2.1 z hz), h.2.2.2⟩
theorem NIn.b {w : World} {a : Option Addr} {len : Nat} {zs : List Int} (h : NIn .u8 w a len zs) : BIn w a len zs := ⟨h.1, h.2.1, fun z hz => fits8 (h.2.2.1 z hz), h.2.2.2⟩
/-- What a call owns lies in the world. -/
theorem own_nin {k : IntKind} {t : TypeId} {w : World} {base : Nat} {a : Option Addr} {n c : Nat} {zs : List Int} (h : w.ownsRow base t 1 (.slice a n c) n (kInts k zs)) (hm : n ≤ maxLen) (hz : ∀ z ∈ zs, (Lit.int k z).wf = true) :
  NIn k w a n zs := by
 have hl : zs.length = n := by have := h.1; simp [kInts] at this; omega
 refine ⟨hl, hm, hz, ?_⟩
 rcases h.2 with ⟨hv, hn⟩ | ⟨g, cap, cur, hv, hb, hg, hc, hcm, hsz, htake⟩
 ·exact .inl hn
 ·cases hv
  refine .inr ⟨g, 0, rfl, fun i hi => ?_⟩
  have hcl := h.cells (g := g) rfl i (.int k (zs.getD i 0)) (by simp [kInts, List.getD, hl, hi])
  rw [Addr.add_mid] at hcl
  exact hcl
theorem own_capN {t : TypeId} {w : World} {base : Nat} {a : Option Addr} {n c : Nat} {zs : List Value} (h : w.ownsRow base t 1 (.slice a n c) n zs) : n ≤ c := by
 rcases h.2 with ⟨hv, hn⟩ | ⟨g, cap, cur, hv, hb, hg, hc, hcm, hsz, htake⟩
 ·omega
 ·cases hv; omega
theorem own_lowerN {t : TypeId} {w : World} {base base' : Nat} {v : Value} {n : Nat} {zs : List Value} (h : w.ownsRow base t 1 v n zs) (hb : base' ≤ base) : w.ownsRow base' t 1 v n zs := by
 refine ⟨h.1, ?_⟩
 rcases h.2 with h2 | ⟨g, cap, cur, hv, hbg, hr⟩
 ·exact .inl h2
 ·exact .inr ⟨g, cap, cur, hv, Nat.le_trans hb hbg, hr⟩
theorem Tryz.zero_u64 : (Tryz.prog.info? 36).map (fun i => (i.zero, i.size, i.bytes)) = some (some (.int .u64 0), 1, 8) := by kernel_rfl
theorem u8s_kInts (L : List Int) : u8s L = kInts .u8 L := rfl
theorem byte_one (x : Int) : ∀ z ∈ [x % 256], Fits8 z := by
 intro z hz
 simp only [List.mem_cons, List.not_mem_nil, or_false] at hz
 subst hz
 unfold Fits8
 omega
/-- size and Width tell how many bytes a number of some width has. -/
theorem size_of (x : Int) (w : World) : Calls Tryz.prog 218 #[.int .i64 x] w fun e w' => e = .returned (.int .i64 (wd x : Nat)) ∧ w' = w := by
 by_cases h1 : x = 1
 ·subst h1
  go_enter Tryz.func218, Tryz.ntmps218
  go_wp2
  go_ret
  exact ⟨rfl, rfl⟩
 by_cases h2 : x = 2
 ·subst h2
  go_enter Tryz.func218, Tryz.ntmps218
  go_wp2
  go_ret
  exact ⟨rfl, rfl⟩
 by_cases h4 : x = 4
 ·subst h4
  go_enter Tryz.func218, Tryz.ntmps218
  go_wp2
  go_ret
  exact ⟨rfl, rfl⟩
 have hw : wd x = 8 := by unfold wd; rw [if_neg h1, if_neg h2, if_neg h4]
 rw [hw]
 go_enter Tryz.func218, Tryz.ntmps218
 go_wp2
 go_ret
 exact ⟨rfl, rfl⟩
set_option maxHeartbeats 1000000 in
theorem appendNumber_of (a : Option Addr) (n c : Nat) (xs : List Int) (v : Int) (k : Nat) (base : Nat) (w : World) (ho : w.ownsRow base 5 1 (.slice a n c) n (u8s xs)) (hb : base ≤ w.heap.size) (v0 : 0 ≤ v) (v1 : v < 18446744073709551616) (hk : k ≤ 8) (hn : n ≤ 900000) :
  Calls Tryz.prog 217 #[.slice a n c, .int .u64 v, .int .i64 k] w fun e w' => ∃ a' c', e = .returned (.slice a' (n + k) c') ∧ w'.ownsRow base 5 1 (.slice a' (n + k) c') (n + k) (u8s (xs ++ bigI k v)) ∧ Below base w w' := by
 have H : Hid (w.ownsRow base 5 1 (.slice a n c) n (u8s xs) ∧ base ≤ w.heap.size) := ⟨ho, hb⟩
 clear ho hb
 go_enter Tryz.func217, Tryz.ntmps217
 go_wp2
 go_loopw [0, 9] (fun s i wr => ∃ (j : Nat) (a' : Option Addr) (c' : Nat), j ≤ k ∧ i = .int .i64 j ∧ s = .slice a' (n + j : Nat) c' ∧ wr.ownsRow base 5 1 (.slice a' (n + j) c') (n + j) (u8s (xs ++ (bigI k v).take j)) ∧ Below base w wr ∧ base ≤ wr.heap.size)
  (fun _ i _ => k - (intOf i).toNat)
 case atStart => exact ⟨0, a, c, by omega, rfl, rfl, by simpa using H.out.1, Below.refl _ _, H.out.2⟩
 case round =>
  obtain ⟨j, a', c', hj, rfl, rfl, ow, bl, hs⟩ := hrel
  have HK : Hid (wr.ownsRow base 5 1 (.slice a' (n + j) c') (n + j) (u8s (xs ++ (bigI k v).take j)) ∧ Below base w wr ∧ base ≤ wr.heap.size) := ⟨ow, bl, hs⟩
  clear ow bl hs
  by_cases hlt : j < k
  ·have hlt' : (j : Int) < k := by omega
   go_wp2_with (at_builtin; refine wpList_append_bin rfl (.tmp 12) (.tmp 21) rfl base a' (n + j) c' _ rfl (HK.out.1.alloc _) (some ⟨wr.heap.size, 0, none⟩) 1 1 [v / 2 ^ (8 * (k - 1 - j)) % 256] rfl (new_bin rfl rfl rfl (byte_one _) (by unfold maxLen; omega)) (fun h => by cases h) (by omega) (by have := HK.out.2.2; simp; omega) ?_; intro a2 c2 w2 ow2 bl2)
   go_roundw
   case rel =>
    have hbl : Below base w w2 := (HK.out.2.1.alloc HK.out.2.2 _).trans bl2
    refine ⟨j + 1, a2, c2, by omega, by go_num, by rfl, ?_, hbl, by have := bl2.size; have := HK.out.2.2; simp at *; omega⟩
    rw [List.append_assoc, big_take k v hlt] at ow2
    exact ow2
   case measure => simp [intOf]; omega
  ·have hge : (k : Int) ≤ j := by omega
   have hjk : j = k := by omega
   subst hjk
   go_wp2
   go_ret
   refine ⟨a', c', rfl, ?_, HK.out.2.1⟩
   have := HK.out.1
   rwa [List.take_of_length_le (by rw [bigI_length]; exact Nat.le_refl _)] at this
end Go.Proofs.YtcdnjeiamihhbabGreat
