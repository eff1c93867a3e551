/- Records as blocks, and back; where data end: plain mathematics. -/
import Derived.Test.YteokhkoaieibmaaWMath
import Derived.Test.YteokhkoaieibmaaCMath
namespace Go.Proofs.Yteokhkoaieibmaa
open Go.RowKit
set_option linter.unusedVariables false
set_option maxRecDepth 4000

structure It where
  t : Int
  b : Int
  k : Int
  s : Int
  e : Int
def Fits16 (a : Int) : Prop := 0 ≤ a ∧ a < 65536
def It.Fits (x : It) : Prop := Fits32 x.t ∧ FitsU x.b ∧ Fits8 x.k ∧ Fits32 x.s ∧ Fits16 x.e
def itW : List Int := [4, 8, 1, 4, 2]
def hdW : List Int := [4, 4, 8, 2]
def itV (x : It) : List Int := [x.t, x.b, x.k, x.s, x.e]
def hdV (seq n : Int) : List Int := [1129074503, 0, seq, n]
def itB (x : It) : List Int := packL itW (itV x)
def hdB (seq n : Int) : List Int := packL hdW (hdV seq n)
theorem itB_eq (x : It) : itB x = bigI 4 x.t ++ (bigI 8 x.b ++ (bigI 1 x.k ++ (bigI 4 x.s ++ bigI 2 x.e))) := by simp [itB, itW, itV, packL, wd]
theorem hdB_eq (seq n : Int) : hdB seq n = bigI 4 1129074503 ++ (bigI 4 0 ++ (bigI 8 seq ++ bigI 2 n)) := by simp [hdB, hdW, hdV, packL, wd]
theorem itB_length (x : It) : (itB x).length = 19 := by simp [itB_eq, bigI_length]
theorem hdB_length (seq n : Int) : (hdB seq n).length = 18 := by simp [hdB_eq, bigI_length]
theorem itB_fits (x : It) : ∀ z ∈ itB x, Fits8 z := packL_fits _ _
theorem hdB_fits (seq n : Int) : ∀ z ∈ hdB seq n, Fits8 z := packL_fits _ _
/-- May an item stand in a record? -/
def RightI (x : It) : Prop := (x.k = 1 ∧ x.e ≤ 4096) ∨ (x.k = 2 ∧ x.s = 0 ∧ x.e = 0)
instance (x : It) : Decidable (RightI x) := by unfold RightI; infer_instance
def PowR : List Int := [64, 128, 256, 512, 1024, 2048, 4096]
def roomI (block : Int) : Int := if block ∈ PowR then (block - 19) / 19 else 0
def itsB (xs : List It) : List Int := xs.flatMap itB
theorem itsB_snoc (xs : List It) (x : It) : itsB (xs ++ [x]) = itsB xs ++ itB x := by simp [itsB]
theorem itsB_length (xs : List It) : (itsB xs).length = 19 * xs.length := by
  induction xs with
  | nil => rfl
  | cons x xs ih => simp only [itsB, List.flatMap_cons, List.length_append, itB_length, List.length_cons]; unfold itsB at ih; omega
theorem itsB_fits (xs : List It) : ∀ z ∈ itsB xs, Fits8 z := by
  intro z hz
  simp only [itsB, List.mem_flatMap] at hz
  obtain ⟨x, _, h⟩ := hz
  exact itB_fits x z h
def headL (seq : Int) (xs : List It) : List Int := hdB seq xs.length ++ itsB xs
theorem headL_length (seq : Int) (xs : List It) : (headL seq xs).length = 18 + 19 * xs.length := by rw [headL, List.length_append, hdB_length, itsB_length]
def pageL (seq : Int) (xs : List It) (N : Nat) : List Int := headL seq xs ++ List.replicate (N - 1 - (18 + 19 * xs.length)) 0 ++ [231]
def joinL (p : List Int) : List Int := p.take 4 ++ (bigI 4 (crI 0 p) ++ p.drop 8)
def stripL (b : List Int) : List Int := b.take 4 ++ ([0, 0, 0, 0] ++ b.drop 8)
def encL (seq : Int) (xs : List It) (N : Nat) : List Int := joinL (pageL seq xs N)
def GoodR (xs : List It) (block : Int) : Prop := 0 < xs.length ∧ (xs.length : Int) ≤ roomI block ∧ ∀ x ∈ xs, RightI x
instance (xs : List It) (block : Int) : Decidable (GoodR xs block) := by unfold GoodR; infer_instance
def encE (xs : List It) (block : Int) : Int := if GoodR xs block then 0 else 110
def encB (seq : Int) (xs : List It) (block : Int) : List Int := if GoodR xs block then encL seq xs block.toNat else []
theorem pow_bounds {b : Int} (h : b ∈ PowR) : 64 ≤ b ∧ b ≤ 4096 := by
  simp [PowR] at h
  omega
theorem room_bounds {b : Int} (h : 0 < roomI b) : b ∈ PowR ∧ roomI b = (b - 19) / 19 := by
  unfold roomI at *
  by_cases hb : b ∈ PowR
  · rw [if_pos hb]; exact ⟨hb, rfl⟩
  · rw [if_neg hb] at h; omega
theorem room_le (b : Int) : 0 ≤ roomI b ∧ roomI b ≤ 214 := by
  unfold roomI
  split
  · rename_i h; have := pow_bounds h; omega
  · omega
theorem GoodR.bounds {xs : List It} {b : Int} (h : GoodR xs b) : 64 ≤ b ∧ b ≤ 4096 ∧ 0 < xs.length ∧ xs.length ≤ 214 ∧ 19 + 19 * (xs.length : Int) ≤ b := by
  obtain ⟨h1, h2, _⟩ := h
  obtain ⟨h3, h4⟩ := room_bounds (b := b) (by omega)
  have := pow_bounds h3
  have := room_le b
  refine ⟨by omega, by omega, h1, by omega, by omega⟩
theorem page_eq (seq : Int) (xs : List It) (N : Nat) : pageL seq xs N = bigI 4 1129074503 ++ (bigI 4 0 ++ (bigI 8 seq ++ (bigI 2 xs.length ++ (itsB xs ++ (List.replicate (N - 1 - (18 + 19 * xs.length)) 0 ++ [231]))))) := by
  simp [pageL, headL, hdB_eq]
theorem page_length {seq : Int} {xs : List It} {N : Nat} (h : 19 + 19 * xs.length ≤ N) : (pageL seq xs N).length = N := by
  simp only [pageL, List.length_append, headL_length, List.length_replicate, List.length_singleton]; omega
theorem page_fits (seq : Int) (xs : List It) (N : Nat) : ∀ z ∈ pageL seq xs N, Fits8 z := by
  intro z hz
  simp only [pageL, headL, List.mem_append, List.mem_replicate, List.mem_singleton] at hz
  rcases hz with ((h | h) | ⟨_, h⟩) | h
  · exact hdB_fits _ _ z h
  · exact itsB_fits _ z h
  · subst h; unfold Fits8; omega
  · subst h; unfold Fits8; omega
theorem fits0 : Fits32 0 := by unfold Fits32; omega
theorem big40 : bigI 4 0 = [0, 0, 0, 0] := by decide
theorem join_length {p : List Int} (h : 8 ≤ p.length) : (joinL p).length = p.length := by
  simp only [joinL, List.length_append, List.length_take, List.length_drop, bigI_length]; omega
theorem join_take {p : List Int} (h : 8 ≤ p.length) : (joinL p).take 4 = p.take 4 := List.take_left' (by simp; omega)
theorem join_drop {p : List Int} (h : 8 ≤ p.length) : (joinL p).drop 8 = p.drop 8 := by
  unfold joinL
  rw [← List.append_assoc, List.drop_left' (by simp [bigI_length]; omega)]
theorem join_mid {p : List Int} (h : 8 ≤ p.length) : ((joinL p).drop 4).take 4 = bigI 4 (crI 0 p) := by
  unfold joinL
  rw [List.drop_left' (by simp; omega), List.take_left' (bigI_length _ _)]
theorem join_fits {p : List Int} (h : ∀ z ∈ p, Fits8 z) : ∀ z ∈ joinL p, Fits8 z := by
  intro z hz
  simp only [joinL, List.mem_append] at hz
  rcases hz with hz | hz | hz
  · exact h z (List.mem_of_mem_take hz)
  · exact bigI_fits _ _ z hz
  · exact h z (List.mem_of_mem_drop hz)
theorem strip_join {p : List Int} (h : 8 ≤ p.length) (h0 : (p.drop 4).take 4 = [0, 0, 0, 0]) : stripL (joinL p) = p := by
  unfold stripL
  rw [join_take h, join_drop h, ← h0]
  have : p.drop 8 = (p.drop 4).drop 4 := by rw [List.drop_drop]
  rw [this, List.take_append_drop, List.take_append_drop]
theorem page_zero (seq : Int) (xs : List It) (N : Nat) : ((pageL seq xs N).drop 4).take 4 = [0, 0, 0, 0] := by
  rw [page_eq, List.drop_left' (bigI_length _ _), List.take_left' (bigI_length _ _), big40]
theorem page_eight {seq : Int} {xs : List It} {N : Nat} : 8 ≤ (pageL seq xs N).length := by
  simp only [pageL, List.length_append, headL_length]; omega
theorem enc_length {seq : Int} {xs : List It} {N : Nat} (h : 19 + 19 * xs.length ≤ N) : (encL seq xs N).length = N := by
  rw [encL, join_length page_eight, page_length h]
theorem enc_fits (seq : Int) (xs : List It) (N : Nat) : ∀ z ∈ encL seq xs N, Fits8 z := join_fits (page_fits _ _ _)
theorem strip_enc (seq : Int) (xs : List It) (N : Nat) : stripL (encL seq xs N) = pageL seq xs N := strip_join page_eight (page_zero _ _ _)

/-! ### What a block's numbers say -/
def rdM (bs : List Int) : Int := numI (bs.take 4)
def rdSeq (bs : List Int) : Int := numI ((bs.drop 8).take 8)
def rdN (bs : List Int) : Int := numI ((bs.drop 16).take 2)
def rdI (ys : List Int) : It := ⟨numI (ys.take 4), numI ((ys.drop 4).take 8), numI ((ys.drop 12).take 1), numI ((ys.drop 13).take 4), numI ((ys.drop 17).take 2)⟩
def rdL : Nat → List Int → List It
  | 0, _ => []
  | n + 1, ys => rdI ys :: rdL n (ys.drop 19)
theorem rdL_length : ∀ (n : Nat) (ys : List Int), (rdL n ys).length = n
  | 0, _ => rfl
  | n + 1, ys => by simp [rdL, rdL_length n]
theorem rdL_snoc : ∀ (n : Nat) (ys : List Int), rdL (n + 1) ys = rdL n ys ++ [rdI (ys.drop (19 * n))]
  | 0, ys => by simp [rdL]
  | n + 1, ys => by
    show rdI ys :: rdL (n + 1) (ys.drop 19) = _
    rw [rdL_snoc n, List.drop_drop]
    have e : 19 * (n + 1) = 19 + 19 * n := by omega
    rw [e]
    rfl
def rdIts (bs : List Int) : List It := rdL (rdN bs).toNat (bs.drop 18)
theorem val_hd (bs : List Int) : valL bs hdW = [rdM bs, numI ((bs.drop 4).take 4), rdSeq bs, rdN bs] := by
  simp [valL, hdW, wd, rdM, rdSeq, rdN, List.drop_drop]
theorem val_it (ys : List Int) : valL ys itW = itV (rdI ys) := by
  simp [valL, itW, wd, rdI, itV, List.drop_drop]
theorem off_hd : offL hdW = 18 := by decide
theorem off_it : offL itW = 19 := by decide
theorem fits_part {bs : List Int} (h : ∀ z ∈ bs, Fits8 z) (i n : Nat) : ∀ z ∈ (bs.drop i).take n, Fits8 z := fun z hz => h z (List.mem_of_mem_drop (List.mem_of_mem_take hz))
theorem part_len (bs : List Int) (i n : Nat) : ((bs.drop i).take n).length ≤ n := by rw [List.length_take]; omega
theorem rdI_fits {ys : List Int} (h : ∀ z ∈ ys, Fits8 z) : (rdI ys).Fits := by
  have a := numI_small (n := 4) (part_len ys 0 4) (fits_part h 0 4)
  have b := numI_small (n := 8) (part_len ys 4 8) (fits_part h 4 8)
  have c := numI_small (n := 1) (part_len ys 12 1) (fits_part h 12 1)
  have d := numI_small (n := 4) (part_len ys 13 4) (fits_part h 13 4)
  have e := numI_small (n := 2) (part_len ys 17 2) (fits_part h 17 2)
  exact ⟨a, b, c, d, e⟩
theorem rdL_fits : ∀ (n : Nat) {ys : List Int}, (∀ z ∈ ys, Fits8 z) → ∀ x ∈ rdL n ys, x.Fits
  | 0, _, _, x, hx => by simp [rdL] at hx
  | n + 1, ys, h, x, hx => by
    simp only [rdL, List.mem_cons] at hx
    rcases hx with rfl | hx
    · exact rdI_fits h
    · exact rdL_fits n (fun z hz => h z (List.mem_of_mem_drop hz)) x hx
theorem rdSeq_fits {bs : List Int} (h : ∀ z ∈ bs, Fits8 z) : FitsU (rdSeq bs) := numI_small (n := 8) (part_len bs 8 8) (fits_part h 8 8)
theorem rdN_fits {bs : List Int} (h : ∀ z ∈ bs, Fits8 z) : Fits16 (rdN bs) := numI_small (n := 2) (part_len bs 16 2) (fits_part h 16 2)
theorem rdM_fits {bs : List Int} (h : ∀ z ∈ bs, Fits8 z) : Fits32 (rdM bs) := numI_small (n := 4) (part_len bs 0 4) (fits_part h 0 4)
theorem numI_of {k : Nat} {v : Int} (h0 : 0 ≤ v) (h1 : v < 256 ^ k) : numI (bigI k v) = v := by rw [numI_big k v h0, Int.emod_eq_of_lt h0 h1]
theorem rdI_it {x : It} (h : x.Fits) (more : List Int) : rdI (itB x ++ more) = x := by
  obtain ⟨h1, h2, h3, h4, h5⟩ := h
  have e : itB x ++ more = bigI 4 x.t ++ (bigI 8 x.b ++ (bigI 1 x.k ++ (bigI 4 x.s ++ (bigI 2 x.e ++ more)))) := by rw [itB_eq]; simp
  have d4 : (itB x ++ more).drop 4 = bigI 8 x.b ++ (bigI 1 x.k ++ (bigI 4 x.s ++ (bigI 2 x.e ++ more))) := by rw [e, List.drop_left' (bigI_length _ _)]
  have d12 : (itB x ++ more).drop 12 = bigI 1 x.k ++ (bigI 4 x.s ++ (bigI 2 x.e ++ more)) := by
    rw [show (12 : Nat) = 4 + 8 from rfl, ← List.drop_drop, d4, List.drop_left' (bigI_length _ _)]
  have d13 : (itB x ++ more).drop 13 = bigI 4 x.s ++ (bigI 2 x.e ++ more) := by
    rw [show (13 : Nat) = 12 + 1 from rfl, ← List.drop_drop, d12, List.drop_left' (bigI_length _ _)]
  have d17 : (itB x ++ more).drop 17 = bigI 2 x.e ++ more := by
    rw [show (17 : Nat) = 13 + 4 from rfl, ← List.drop_drop, d13, List.drop_left' (bigI_length _ _)]
  unfold rdI
  rw [d4, d12, d13, d17, e]
  simp only [List.take_left' (bigI_length _ _)]
  rw [numI_of h1.1 h1.2, numI_of h2.1 h2.2, numI_of h3.1 h3.2, numI_of h4.1 h4.2, numI_of h5.1 h5.2]
theorem rdL_its : ∀ (xs : List It) (more : List Int), (∀ x ∈ xs, x.Fits) → rdL xs.length (itsB xs ++ more) = xs
  | [], _, _ => rfl
  | x :: xs, more, h => by
    have e : itsB (x :: xs) ++ more = itB x ++ (itsB xs ++ more) := by simp [itsB]
    show rdI _ :: rdL xs.length _ = _
    rw [e, rdI_it (h x (by simp)), List.drop_left' (itB_length _), rdL_its xs more (fun y hy => h y (by simp [hy]))]
theorem enc_drop (seq : Int) (xs : List It) (N i : Nat) (hi : 8 ≤ i) : (encL seq xs N).drop i = (pageL seq xs N).drop i := by
  obtain ⟨j, rfl⟩ : ∃ j, i = 8 + j := ⟨i - 8, by omega⟩
  rw [← List.drop_drop, ← List.drop_drop, encL, join_drop page_eight]
theorem page_drop8 (seq : Int) (xs : List It) (N : Nat) : (pageL seq xs N).drop 8 = bigI 8 seq ++ (bigI 2 xs.length ++ (itsB xs ++ (List.replicate (N - 1 - (18 + 19 * xs.length)) 0 ++ [231]))) := by
  rw [page_eq, show (8 : Nat) = 4 + 4 from rfl, ← List.drop_drop, List.drop_left' (bigI_length _ _), List.drop_left' (bigI_length _ _)]
theorem page_drop16 (seq : Int) (xs : List It) (N : Nat) : (pageL seq xs N).drop 16 = bigI 2 xs.length ++ (itsB xs ++ (List.replicate (N - 1 - (18 + 19 * xs.length)) 0 ++ [231])) := by
  rw [show (16 : Nat) = 8 + 8 from rfl, ← List.drop_drop, page_drop8, List.drop_left' (bigI_length _ _)]
theorem page_drop18 (seq : Int) (xs : List It) (N : Nat) : (pageL seq xs N).drop 18 = itsB xs ++ (List.replicate (N - 1 - (18 + 19 * xs.length)) 0 ++ [231]) := by
  rw [show (18 : Nat) = 16 + 2 from rfl, ← List.drop_drop, page_drop16, List.drop_left' (bigI_length _ _)]
theorem rd_enc {seq : Int} {xs : List It} (N : Nat) (hs : FitsU seq) (hx : ∀ x ∈ xs, x.Fits) (hn : xs.length ≤ 214) :
    rdM (encL seq xs N) = 1129074503 ∧ rdSeq (encL seq xs N) = seq ∧ rdN (encL seq xs N) = xs.length ∧ rdIts (encL seq xs N) = xs := by
  have hN : rdN (encL seq xs N) = xs.length := by
    unfold rdN
    have h2 : (256 : Int) ^ 2 = 65536 := by decide
    rw [enc_drop _ _ _ _ (by omega), page_drop16, List.take_left' (bigI_length _ _), numI_of (by omega) (by omega)]
  refine ⟨?_, ?_, hN, ?_⟩
  · unfold rdM
    rw [encL, join_take page_eight, page_eq, List.take_left' (bigI_length _ _)]
    decide
  · unfold rdSeq
    rw [enc_drop _ _ _ _ (by omega), page_drop8, List.take_left' (bigI_length _ _), numI_of hs.1 hs.2]
  · unfold rdIts
    rw [hN, enc_drop _ _ _ _ (by omega), page_drop18, Int.toNat_natCast, rdL_its _ _ hx]

/-! ### Is a block a record? -/
def IsR (bs : List Int) : Prop := GoodR (rdIts bs) bs.length ∧ encL (rdSeq bs) (rdIts bs) bs.length = bs
instance (bs : List Int) : Decidable (IsR bs) := by unfold IsR; infer_instance
def decE (bs : List Int) : Int := if IsR bs then 0 else 111
def decS (bs : List Int) : Int := if IsR bs then rdSeq bs else 0
def decX (bs : List Int) : List It := if IsR bs then rdIts bs else []
theorem decS_fits {bs : List Int} (h : ∀ z ∈ bs, Fits8 z) : FitsU (decS bs) := by
  unfold decS; split
  · exact rdSeq_fits h
  · unfold FitsU; omega
theorem decX_fits {bs : List Int} (h : ∀ z ∈ bs, Fits8 z) : ∀ x ∈ decX bs, x.Fits := by
  unfold decX; split
  · exact rdL_fits _ (fun z hz => h z (List.mem_of_mem_drop hz))
  · simp
theorem isR_enc {seq : Int} {xs : List It} {block : Int} (hs : FitsU seq) (hx : ∀ x ∈ xs, x.Fits) (hg : GoodR xs block) : IsR (encL seq xs block.toNat) ∧ rdSeq (encL seq xs block.toNat) = seq ∧ rdIts (encL seq xs block.toNat) = xs := by
  have hb := hg.bounds
  obtain ⟨_, h1, _, h2⟩ := rd_enc block.toNat hs hx (by omega)
  have hl : ((encL seq xs block.toNat).length : Int) = block := by rw [enc_length (by omega)]; omega
  refine ⟨⟨?_, ?_⟩, h1, h2⟩
  · rw [hl, h2]; exact hg
  · rw [h1, h2]; congr 1; omega
theorem IsR.bounds {bs : List Int} (h : IsR bs) : 64 ≤ bs.length ∧ bs.length ≤ 4096 ∧ 0 < (rdN bs).toNat ∧ (rdN bs).toNat ≤ 214 ∧ 19 + 19 * (rdN bs).toNat ≤ bs.length := by
  have := h.1.bounds
  have hl : (rdIts bs).length = (rdN bs).toNat := rdL_length _ _
  rw [hl] at this
  omega
theorem IsR.magic {bs : List Int} (h : IsR bs) : rdM bs = 1129074503 := by
  have := h.2
  rw [← this]
  unfold rdM
  rw [encL, join_take page_eight, page_eq, List.take_left' (bigI_length _ _)]
  decide
theorem IsR.join {bs : List Int} (h : IsR bs) : bs = joinL (stripL bs) := by
  have e := h.2
  conv => rhs; rw [← e]
  rw [strip_enc]
  exact e.symm
theorem IsR.sum {bs : List Int} (h : IsR bs) : numI ((bs.drop 4).take 4) = crI 0 (stripL bs) := by
  have e := h.2
  have hf : Fits32 (crI 0 (pageL (rdSeq bs) (rdIts bs) bs.length)) := crI_fits fits0 (page_fits _ _ _)
  rw [← e]
  rw [strip_enc]
  generalize rdSeq bs = s at hf ⊢
  generalize rdIts bs = xs at hf ⊢
  generalize bs.length = N at hf ⊢
  rw [encL, join_mid page_eight, numI_of hf.1 hf.2]
theorem IsR.last {bs : List Int} (h : IsR bs) : bs.getD (bs.length - 1) 0 = 231 := by
  have hb := h.bounds
  have hl : (rdIts bs).length = (rdN bs).toNat := rdL_length _ _
  have e := h.2
  have hp : (pageL (rdSeq bs) (rdIts bs) bs.length).length = bs.length := page_length (by rw [hl]; omega)
  have h2 : bs.drop (bs.length - 1) = [231] := by
    conv => lhs; arg 2; rw [← e]
    rw [enc_drop _ _ _ _ (by omega)]
    have : (pageL (rdSeq bs) (rdIts bs) bs.length) = (headL (rdSeq bs) (rdIts bs) ++ List.replicate (bs.length - 1 - (18 + 19 * (rdIts bs).length)) 0) ++ [231] := rfl
    rw [this, List.drop_left' (by simp only [List.length_append, headL_length, List.length_replicate]; rw [hl]; omega)]
  have h3 : (bs.drop (bs.length - 1))[0]? = some 231 := by rw [h2]; rfl
  rw [List.getElem?_drop] at h3
  simp only [Nat.add_zero] at h3
  simp [List.getD, h3]
theorem IsR.first {bs : List Int} (h : IsR bs) : bs.getD 0 0 = 67 := by
  have e := h.2
  have h2 : bs.take 4 = [67, 76, 79, 71] := by
    conv => lhs; rw [← e]
    rw [encL, join_take page_eight, page_eq, List.take_left' (bigI_length _ _)]
    decide
  have h3 : (bs.take 4)[0]? = some 67 := by rw [h2]; rfl
  rw [List.getElem?_take] at h3
  simp at h3
  simp [List.getD, h3]
theorem strip_fits {bs : List Int} (h : ∀ z ∈ bs, Fits8 z) : ∀ z ∈ stripL bs, Fits8 z := by
  intro z hz
  simp only [stripL, List.mem_append] at hz
  rcases hz with hz | hz | hz
  · exact h z (List.mem_of_mem_take hz)
  · simp at hz; subst hz; unfold Fits8; omega
  · exact h z (List.mem_of_mem_drop hz)
theorem strip_length {bs : List Int} (h : 8 ≤ bs.length) : (stripL bs).length = bs.length := by
  simp only [stripL, List.length_append, List.length_take, List.length_drop, List.length_cons, List.length_nil]; omega
theorem strip_get {bs : List Int} (h : 8 ≤ bs.length) {i : Nat} (hi : i < 4 ∨ 8 ≤ i) : (stripL bs)[i]? = bs[i]? := by
  unfold stripL
  rcases hi with hi | hi
  · rw [List.getElem?_append_left (by simp; omega), List.getElem?_take_of_lt hi]
  · rw [List.getElem?_append_right (by simp; omega), List.getElem?_append_right (by simp; omega), List.getElem?_drop]
    congr 1
    simp
    omega
theorem set_other_sum {p : List Int} {i : Nat} {c : Int} (hi : i < p.length) (hp : ∀ z ∈ p, Fits8 z) (hc : Fits8 c) (h : crI 0 (p.set i c) = crI 0 p) : c = p[i] := by
  have e1 : p.set i c = p.take i ++ c :: p.drop (i + 1) := by rw [List.set_eq_take_append_cons_drop, if_pos hi]
  have e2 : p = p.take i ++ p[i] :: p.drop (i + 1) := by rw [List.getElem_cons_drop, List.take_append_drop]
  rw [e1] at h
  conv at h => rhs; rw [e2]
  exact crI_other fits0 (fun z hz => hp z (List.mem_of_mem_take hz)) (fun z hz => hp z (List.mem_of_mem_drop hz)) hc (hp _ (List.getElem_mem hi)) h
/-- A block of which one byte is another one is none. -/
theorem IsR.one {bs : List Int} (h : IsR bs) (hf : ∀ z ∈ bs, Fits8 z) {i : Nat} (hi : i < bs.length) {c : Int} (hc : Fits8 c) (hne : c ≠ bs[i]) : ¬ IsR (bs.set i c) := by
  intro h'
  have h8 : 8 ≤ bs.length := by have := h.bounds; omega
  by_cases hm : 4 ≤ i ∧ i < 8
  · have e : stripL (bs.set i c) = stripL bs := by
      unfold stripL
      rw [List.take_set_of_le (by omega), List.drop_set_of_lt (by omega)]
    have e1 := h'.join
    rw [e, ← h.join] at e1
    have e2 : (bs.set i c)[i]? = bs[i]? := by rw [e1]
    rw [List.getElem?_set_self hi, List.getElem?_eq_getElem hi] at e2
    exact hne (by simpa using e2)
  · have e : stripL (bs.set i c) = (stripL bs).set i c := by
      apply List.ext_getElem?
      intro j
      by_cases hj : j < 4 ∨ 8 ≤ j
      · rw [strip_get (by simp; omega) hj]
        by_cases eij : i = j
        · subst eij
          rw [List.getElem?_set_self hi, List.getElem?_set_self (by rw [strip_length h8]; exact hi)]
        · rw [List.getElem?_set_ne eij, List.getElem?_set_ne eij, strip_get h8 hj]
      · rw [List.getElem?_set_ne (by omega)]
        have : ∀ l : List Int, 8 ≤ l.length → (stripL l)[j]? = some 0 := by
          intro l hl
          unfold stripL
          rw [List.getElem?_append_right (by simp; omega), List.getElem?_append_left (by simp; omega)]
          have hj2 : j - (l.take 4).length < 4 := by simp; omega
          generalize j - (l.take 4).length = m at hj2
          match m, hj2 with
          | 0, _ => rfl
          | 1, _ => rfl
          | 2, _ => rfl
          | 3, _ => rfl
        rw [this _ (by simp; omega), this _ h8]
    have s1 := h'.sum
    have s2 := h.sum
    have em : ((bs.set i c).drop 4).take 4 = (bs.drop 4).take 4 := by
      apply List.ext_getElem?
      intro j
      rw [List.getElem?_take, List.getElem?_take]
      split
      · rw [List.getElem?_drop, List.getElem?_drop, List.getElem?_set_ne (by omega)]
      · rfl
    rw [em, s2, e] at s1
    have hi' : i < (stripL bs).length := by rw [strip_length h8]; exact hi
    have := set_other_sum hi' (strip_fits hf) hc s1.symm
    have e3 := strip_get h8 (i := i) (by omega)
    rw [List.getElem?_eq_getElem hi', List.getElem?_eq_getElem hi] at e3
    exact hne (by rw [this]; simpa using e3)

/-! ### Where data end -/
def EndsAt (zs : List Int) (n : Nat) : Prop := n ≤ zs.length ∧ (∀ i, n ≤ i → zs.getD i 0 = 0) ∧ (n = 0 ∨ zs.getD (n - 1) 0 ≠ 0)
def endsN : List Int → Nat
  | [] => 0
  | z :: zs => if endsN zs = 0 then (if z = 0 then 0 else 1) else endsN zs + 1
theorem ends_at : ∀ zs : List Int, EndsAt zs (endsN zs)
  | [] => ⟨by simp [endsN], by simp, .inl rfl⟩
  | z :: zs => by
    obtain ⟨h1, h2, h3⟩ := ends_at zs
    unfold endsN
    split
    · rename_i h0
      rw [h0] at h2
      split
      · rename_i hz
        refine ⟨by simp, fun i _ => ?_, .inl rfl⟩
        cases i with
        | zero => simp [hz]
        | succ i => simpa using h2 i (by omega)
      · rename_i hz
        refine ⟨by simp, fun i hi => ?_, .inr (by simpa using hz)⟩
        cases i with
        | zero => omega
        | succ i => simpa using h2 i (by omega)
    · rename_i h0
      refine ⟨by simp; omega, fun i hi => ?_, .inr ?_⟩
      · cases i with
        | zero => omega
        | succ i => simpa using h2 i (by omega)
      · rcases h3 with h3 | h3
        · omega
        · obtain ⟨m, hm⟩ : ∃ m, endsN zs = m + 1 := ⟨endsN zs - 1, by omega⟩
          rw [hm] at h3 ⊢
          simpa using h3
theorem ends_only {zs : List Int} {n m : Nat} (h : EndsAt zs n) (k : EndsAt zs m) : n = m := by
  obtain ⟨h1, h2, h3⟩ := h
  obtain ⟨k1, k2, k3⟩ := k
  rcases Nat.lt_trichotomy n m with hl | hl | hl
  · rcases k3 with k3 | k3
    · omega
    · exact (k3 (h2 (m - 1) (by omega))).elim
  · exact hl
  · rcases h3 with h3 | h3
    · omega
    · exact (h3 (k2 (n - 1) (by omega))).elim
theorem ends_le (zs : List Int) : endsN zs ≤ zs.length := (ends_at zs).1
def checkB (x : It) (zs : List Int) : Bool := decide (x.k = 1 ∧ x.e = endsN zs ∧ x.s = crI 0 zs)
end Go.Proofs.Yteokhkoaieibmaa
