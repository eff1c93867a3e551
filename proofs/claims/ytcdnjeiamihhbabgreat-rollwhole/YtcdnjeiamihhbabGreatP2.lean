/- P2 -/
import Derived.Test.YtcdnjeiamihhbabGreatP1
set_option linter.unusedVariables false
set_option maxRecDepth 4000
namespace Go.Proofs.YtcdnjeiamihhbabGreat
open Go.RowKit
structure It where
 t : Int
 b : Int
 k : Int
 s : Int
 e : Int
def Fits16 (a : Int) : Prop := 0 ≤ a ∧ a < 65536
def It.Fits (x : It) : Prop := Fits32 x.t ∧ FitsU x.b ∧ Fits8 x.k ∧ Fits32 x.s ∧ Fits16 x.e
def itW : List Int := [4, 8, 1, 4, 2]
def hdW : List Int := [4, 4, 8, 2]
def itV (x : It) : List Int := [x.t, x.b, x.k, x.s, x.e]
def hdV (seq n : Int) : List Int := [1129074503, 0, seq, n]
def itB (x : It) : List Int := packL itW (itV x)
def hdB (seq n : Int) : List Int := packL hdW (hdV seq n)
theorem itB_eq (x : It) : itB x = bigI 4 x.t ++ (bigI 8 x.b ++ (bigI 1 x.k ++ (bigI 4 x.s ++ bigI 2 x.e))) := by simp [itB, itW, itV, packL, wd]
theorem hdB_eq (seq n : Int) : hdB seq n = bigI 4 1129074503 ++ (bigI 4 0 ++ (bigI 8 seq ++ bigI 2 n)) := by simp [hdB, hdW, hdV, packL, wd]
theorem itB_length (x : It) : (itB x).length = 19 := by simp [itB_eq, bigI_length]
theorem hdB_length (seq n : Int) : (hdB seq n).length = 18 := by simp [hdB_eq, bigI_length]
theorem itB_fits (x : It) : ∀ z ∈ itB x, Fits8 z := packL_fits _ _
theorem hdB_fits (seq n : Int) : ∀ z ∈ hdB seq n, Fits8 z := packL_fits _ _
/-- May an item stand in a record? -/
def RightI (x : It) : Prop := (x.k = 1 ∧ x.e ≤ 4096) ∨ (x.k = 2 ∧ x.s = 0 ∧ x.e = 0)
instance (x : It) : Decidable (RightI x) := by unfold RightI; infer_instance
def PowR : List Int := [64, 128, 256, 512, 1024, 2048, 4096]
def roomI (block : Int) : Int := if block ∈ PowR then (block - 19) / 19 else 0
def itsB (xs : List It) : List Int := xs.flatMap itB
theorem itsB_snoc (xs : List It) (x : It) : itsB (xs ++ [x]) = itsB xs ++ itB x := by simp [itsB]
theorem itsB_length (xs : List It) : (itsB xs).length = 19 * xs.length := by
 induction xs with
 | nil => rfl
 | cons x xs ih => simp only [itsB, List.flatMap_cons, List.length_append, itB_length, List.length_cons]; unfold itsB at ih; omega
theorem itsB_fits (xs : List It) : ∀ z ∈ itsB xs, Fits8 z := by
 intro z hz
 simp only [itsB, List.mem_flatMap] at hz
 obtain ⟨x, _, h⟩ := hz
 exact itB_fits x z h
def headL (seq : Int) (xs : List It) : List Int := hdB seq xs.length ++ itsB xs
theorem headL_length (seq : Int) (xs : List It) : (headL seq xs).length = 18 + 19 * xs.length := by rw [headL, List.length_append, hdB_length, itsB_length]
def pageL (seq : Int) (xs : List It) (N : Nat) : List Int := headL seq xs ++ List.replicate (N - 1 - (18 + 19 * xs.length)) 0 ++ [231]
def joinL (p : List Int) : List Int := p.take 4 ++ (bigI 4 (crI 0 p) ++ p.drop 8)
def stripL (b : List Int) : List Int := b.take 4 ++ ([0, 0, 0, 0] ++ b.drop 8)
def encL (seq : Int) (xs : List It) (N : Nat) : List Int := joinL (pageL seq xs N)
def GoodR (xs : List It) (block : Int) : Prop := 0 < xs.length ∧ (xs.length : Int) ≤ roomI block ∧ ∀ x ∈ xs, RightI x
instance (xs : List It) (block : Int) : Decidable (GoodR xs block) := by unfold GoodR; infer_instance
def encE (xs : List It) (block : Int) : Int := if GoodR xs block then 0 else 110
def encB (seq : Int) (xs : List It) (block : Int) : List Int := if GoodR xs block then encL seq xs block.toNat else []
theorem pow_bounds {b : Int} (h : b ∈ PowR) : 64 ≤ b ∧ b ≤ 4096 := by
 simp [PowR] at h
 omega
theorem room_bounds {b : Int} (h : 0 < roomI b) : b ∈ PowR ∧ roomI b = (b - 19) / 19 := by
 unfold roomI at *
 by_cases hb : b ∈ PowR
 ·rw [if_pos hb]; exact ⟨hb, rfl⟩
 ·rw [if_neg hb] at h; omega
theorem room_le (b : Int) : 0 ≤ roomI b ∧ roomI b ≤ 214 := by
 unfold roomI
 split
 ·rename_i h; have := pow_bounds h; omega
 ·omega
theorem GoodR.bounds {xs : List It} {b : Int} (h : GoodR xs b) : 64 ≤ b ∧ b ≤ 4096 ∧ 0 < xs.length ∧ xs.length ≤ 214 ∧ 19 + 19 * (xs.length : Int) ≤ b := by
 obtain ⟨h1, h2, _⟩ := h
 obtain ⟨h3, h4⟩ := room_bounds (b := b) (by omega)
 have := pow_bounds h3
 have := room_le b
 refine ⟨by omega, by omega, h1, by omega, by omega⟩
theorem page_eq (seq : Int) (xs : List It) (N : Nat) : pageL seq xs N = bigI 4 1129074503 ++ (bigI 4 0 ++ (bigI 8 seq ++ (bigI 2 xs.length ++ (itsB xs ++ (List.replicate (N - 1 - (18 + 19 * xs.length)) 0 ++ [231]))))) := by
 simp [pageL, headL, hdB_eq]
theorem page_length {seq : Int} {xs : List It} {N : Nat} (h : 19 + 19 * xs.length ≤ N) : (pageL seq xs N).length = N := by
 simp only [pageL, List.length_append, headL_length, List.length_replicate, List.length_singleton]; omega
theorem page_fits (seq : Int) (xs : List It) (N : Nat) : ∀ z ∈ pageL seq xs N, Fits8 z := by
 intro z hz
 simp only [pageL, headL, List.mem_append, List.mem_replicate, List.mem_singleton] at hz
 rcases hz with ((h | h) | ⟨_, h⟩) | h
 ·exact hdB_fits _ _ z h
 ·exact itsB_fits _ z h
 ·subst h; unfold Fits8; omega
 ·subst h; unfold Fits8; omega
theorem fits0 : Fits32 0 := by unfold Fits32; omega
theorem big40 : bigI 4 0 = [0, 0, 0, 0] := by decide
theorem join_length {p : List Int} (h : 8 ≤ p.length) : (joinL p).length = p.length := by
 simp only [joinL, List.length_append, List.length_take, List.length_drop, bigI_length]; omega
theorem join_take {p : List Int} (h : 8 ≤ p.length) : (joinL p).take 4 = p.take 4 := List.take_left' (by simp; omega)
theorem join_drop {p : List Int} (h : 8 ≤ p.length) : (joinL p).drop 8 = p.drop 8 := by
 unfold joinL
 rw [← List.append_assoc, List.drop_left' (by simp [bigI_length]; omega)]
theorem join_fits {p : List Int} (h : ∀ z ∈ p, Fits8 z) : ∀ z ∈ joinL p, Fits8 z := by
 intro z hz
 simp only [joinL, List.mem_append] at hz
 rcases hz with hz | hz | hz
 ·exact h z (List.mem_of_mem_take hz)
 ·exact bigI_fits _ _ z hz
 ·exact h z (List.mem_of_mem_drop hz)
theorem strip_join {p : List Int} (h : 8 ≤ p.length) (h0 : (p.drop 4).take 4 = [0, 0, 0, 0]) : stripL (joinL p) = p := by
 unfold stripL
 rw [join_take h, join_drop h, ← h0]
 have : p.drop 8 = (p.drop 4).drop 4 := by rw [List.drop_drop]
 rw [this, List.take_append_drop, List.take_append_drop]
theorem page_eight {seq : Int} {xs : List It} {N : Nat} : 8 ≤ (pageL seq xs N).length := by
 simp only [pageL, List.length_append, headL_length]; omega
theorem enc_length {seq : Int} {xs : List It} {N : Nat} (h : 19 + 19 * xs.length ≤ N) : (encL seq xs N).length = N := by
 rw [encL, join_length page_eight, page_length h]
theorem enc_fits (seq : Int) (xs : List It) (N : Nat) : ∀ z ∈ encL seq xs N, Fits8 z := join_fits (page_fits _ _ _)
/-! ### What a block's numbers say -/
def rdM (bs : List Int) : Int := numI (bs.take 4)
def rdSeq (bs : List Int) : Int := numI ((bs.drop 8).take 8)
def rdN (bs : List Int) : Int := numI ((bs.drop 16).take 2)
def rdI (ys : List Int) : It := ⟨numI (ys.take 4), numI ((ys.drop 4).take 8), numI ((ys.drop 12).take 1), numI ((ys.drop 13).take 4), numI ((ys.drop 17).take 2)⟩
def rdL : Nat → List Int → List It
 | 0, _ => []
 | n + 1, ys => rdI ys :: rdL n (ys.drop 19)
theorem rdL_length : ∀ (n : Nat) (ys : List Int), (rdL n ys).length = n
 | 0, _ => rfl
 | n + 1, ys => by simp [rdL, rdL_length n]
theorem rdL_snoc : ∀ (n : Nat) (ys : List Int), rdL (n + 1) ys = rdL n ys ++ [rdI (ys.drop (19 * n))]
 | 0, ys => by simp [rdL]
 | n + 1, ys => by
  show rdI ys :: rdL (n + 1) (ys.drop 19) = _
  rw [rdL_snoc n, List.drop_drop]
  have e : 19 * (n + 1) = 19 + 19 * n := by omega
  rw [e]
  rfl
def rdIts (bs : List Int) : List It := rdL (rdN bs).toNat (bs.drop 18)
theorem val_hd (bs : List Int) : valL bs hdW = [rdM bs, numI ((bs.drop 4).take 4), rdSeq bs, rdN bs] := by
 simp [valL, hdW, wd, rdM, rdSeq, rdN, List.drop_drop]
theorem val_it (ys : List Int) : valL ys itW = itV (rdI ys) := by
 simp [valL, itW, wd, rdI, itV, List.drop_drop]
theorem off_hd : offL hdW = 18 := by decide
theorem off_it : offL itW = 19 := by decide
theorem fits_part {bs : List Int} (h : ∀ z ∈ bs, Fits8 z) (i n : Nat) : ∀ z ∈ (bs.drop i).take n, Fits8 z := fun z hz => h z (List.mem_of_mem_drop (List.mem_of_mem_take hz))
theorem part_len (bs : List Int) (i n : Nat) : ((bs.drop i).take n).length ≤ n := by rw [List.length_take]; omega
theorem rdI_fits {ys : List Int} (h : ∀ z ∈ ys, Fits8 z) : (rdI ys).Fits := by
 have a := numI_small (n := 4) (part_len ys 0 4) (fits_part h 0 4)
 have b := numI_small (n := 8) (part_len ys 4 8) (fits_part h 4 8)
 have c := numI_small (n := 1) (part_len ys 12 1) (fits_part h 12 1)
 have d := numI_small (n := 4) (part_len ys 13 4) (fits_part h 13 4)
 have e := numI_small (n := 2) (part_len ys 17 2) (fits_part h 17 2)
 exact ⟨a, b, c, d, e⟩
theorem rdL_fits : ∀ (n : Nat) {ys : List Int}, (∀ z ∈ ys, Fits8 z) → ∀ x ∈ rdL n ys, x.Fits
 | 0, _, _, x, hx => by simp [rdL] at hx
 | n + 1, ys, h, x, hx => by
  simp only [rdL, List.mem_cons] at hx
  rcases hx with rfl | hx
  ·exact rdI_fits h
  ·exact rdL_fits n (fun z hz => h z (List.mem_of_mem_drop hz)) x hx
theorem rdSeq_fits {bs : List Int} (h : ∀ z ∈ bs, Fits8 z) : FitsU (rdSeq bs) := numI_small (n := 8) (part_len bs 8 8) (fits_part h 8 8)
theorem rdN_fits {bs : List Int} (h : ∀ z ∈ bs, Fits8 z) : Fits16 (rdN bs) := numI_small (n := 2) (part_len bs 16 2) (fits_part h 16 2)
theorem numI_of {k : Nat} {v : Int} (h0 : 0 ≤ v) (h1 : v < 256 ^ k) : numI (bigI k v) = v := by rw [numI_big k v h0, Int.emod_eq_of_lt h0 h1]
theorem rdI_it {x : It} (h : x.Fits) (more : List Int) : rdI (itB x ++ more) = x := by
 obtain ⟨h1, h2, h3, h4, h5⟩ := h
 have e : itB x ++ more = bigI 4 x.t ++ (bigI 8 x.b ++ (bigI 1 x.k ++ (bigI 4 x.s ++ (bigI 2 x.e ++ more)))) := by rw [itB_eq]; simp
 have d4 : (itB x ++ more).drop 4 = bigI 8 x.b ++ (bigI 1 x.k ++ (bigI 4 x.s ++ (bigI 2 x.e ++ more))) := by rw [e, List.drop_left' (bigI_length _ _)]
 have d12 : (itB x ++ more).drop 12 = bigI 1 x.k ++ (bigI 4 x.s ++ (bigI 2 x.e ++ more)) := by
  rw [show (12 : Nat) = 4 + 8 from rfl, ← List.drop_drop, d4, List.drop_left' (bigI_length _ _)]
 have d13 : (itB x ++ more).drop 13 = bigI 4 x.s ++ (bigI 2 x.e ++ more) := by
  rw [show (13 : Nat) = 12 + 1 from rfl, ← List.drop_drop, d12, List.drop_left' (bigI_length _ _)]
 have d17 : (itB x ++ more).drop 17 = bigI 2 x.e ++ more := by
  rw [show (17 : Nat) = 13 + 4 from rfl, ← List.drop_drop, d13, List.drop_left' (bigI_length _ _)]
 unfold rdI
 rw [d4, d12, d13, d17, e]
 simp only [List.take_left' (bigI_length _ _)]
 rw [numI_of h1.1 h1.2, numI_of h2.1 h2.2, numI_of h3.1 h3.2, numI_of h4.1 h4.2, numI_of h5.1 h5.2]
theorem rdL_its : ∀ (xs : List It) (more : List Int), (∀ x ∈ xs, x.Fits) → rdL xs.length (itsB xs ++ more) = xs
 | [], _, _ => rfl
 | x :: xs, more, h => by
  have e : itsB (x :: xs) ++ more = itB x ++ (itsB xs ++ more) := by simp [itsB]
  show rdI _ :: rdL xs.length _ = _
  rw [e, rdI_it (h x (by simp)), List.drop_left' (itB_length _), rdL_its xs more (fun y hy => h y (by simp [hy]))]
theorem enc_drop (seq : Int) (xs : List It) (N i : Nat) (hi : 8 ≤ i) : (encL seq xs N).drop i = (pageL seq xs N).drop i := by
 obtain ⟨j, rfl⟩ : ∃ j, i = 8 + j := ⟨i - 8, by omega⟩
 rw [← List.drop_drop, ← List.drop_drop, encL, join_drop page_eight]
theorem page_drop8 (seq : Int) (xs : List It) (N : Nat) : (pageL seq xs N).drop 8 = bigI 8 seq ++ (bigI 2 xs.length ++ (itsB xs ++ (List.replicate (N - 1 - (18 + 19 * xs.length)) 0 ++ [231]))) := by
 rw [page_eq, show (8 : Nat) = 4 + 4 from rfl, ← List.drop_drop, List.drop_left' (bigI_length _ _), List.drop_left' (bigI_length _ _)]
theorem page_drop16 (seq : Int) (xs : List It) (N : Nat) : (pageL seq xs N).drop 16 = bigI 2 xs.length ++ (itsB xs ++ (List.replicate (N - 1 - (18 + 19 * xs.length)) 0 ++ [231])) := by
 rw [show (16 : Nat) = 8 + 8 from rfl, ← List.drop_drop, page_drop8, List.drop_left' (bigI_length _ _)]
theorem page_drop18 (seq : Int) (xs : List It) (N : Nat) : (pageL seq xs N).drop 18 = itsB xs ++ (List.replicate (N - 1 - (18 + 19 * xs.length)) 0 ++ [231]) := by
 rw [show (18 : Nat) = 16 + 2 from rfl, ← List.drop_drop, page_drop16, List.drop_left' (bigI_length _ _)]
theorem rd_enc {seq : Int} {xs : List It} (N : Nat) (hs : FitsU seq) (hx : ∀ x ∈ xs, x.Fits) (hn : xs.length ≤ 214) :
  rdM (encL seq xs N) = 1129074503 ∧ rdSeq (encL seq xs N) = seq ∧ rdN (encL seq xs N) = xs.length ∧ rdIts (encL seq xs N) = xs := by
 have hN : rdN (encL seq xs N) = xs.length := by
  unfold rdN
  have h2 : (256 : Int) ^ 2 = 65536 := by decide
  rw [enc_drop _ _ _ _ (by omega), page_drop16, List.take_left' (bigI_length _ _), numI_of (by omega) (by omega)]
 refine ⟨?_, ?_, hN, ?_⟩
 ·unfold rdM
  rw [encL, join_take page_eight, page_eq, List.take_left' (bigI_length _ _)]
  decide
 ·unfold rdSeq
  rw [enc_drop _ _ _ _ (by omega), page_drop8, List.take_left' (bigI_length _ _), numI_of hs.1 hs.2]
 ·unfold rdIts
  rw [hN, enc_drop _ _ _ _ (by omega), page_drop18, Int.toNat_natCast, rdL_its _ _ hx]
/-! ### Is a block a record? -/
def IsR (bs : List Int) : Prop := GoodR (rdIts bs) bs.length ∧ encL (rdSeq bs) (rdIts bs) bs.length = bs
instance (bs : List Int) : Decidable (IsR bs) := by unfold IsR; infer_instance
def decE (bs : List Int) : Int := if IsR bs then 0 else 111
def decS (bs : List Int) : Int := if IsR bs then rdSeq bs else 0
def decX (bs : List Int) : List It := if IsR bs then rdIts bs else []
theorem decS_fits {bs : List Int} (h : ∀ z ∈ bs, Fits8 z) : FitsU (decS bs) := by
 unfold decS; split
 ·exact rdSeq_fits h
 ·unfold FitsU; omega
theorem isR_enc {seq : Int} {xs : List It} {block : Int} (hs : FitsU seq) (hx : ∀ x ∈ xs, x.Fits) (hg : GoodR xs block) : IsR (encL seq xs block.toNat) ∧ rdSeq (encL seq xs block.toNat) = seq ∧ rdIts (encL seq xs block.toNat) = xs := by
 have hb := hg.bounds
 obtain ⟨_, h1, _, h2⟩ := rd_enc block.toNat hs hx (by omega)
 have hl : ((encL seq xs block.toNat).length : Int) = block := by rw [enc_length (by omega)]; omega
 refine ⟨⟨?_, ?_⟩, h1, h2⟩
 ·rw [hl, h2]; exact hg
 ·rw [h1, h2]; congr 1; omega
theorem IsR.bounds {bs : List Int} (h : IsR bs) : 64 ≤ bs.length ∧ bs.length ≤ 4096 ∧ 0 < (rdN bs).toNat ∧ (rdN bs).toNat ≤ 214 ∧ 19 + 19 * (rdN bs).toNat ≤ bs.length := by
 have := h.1.bounds
 have hl : (rdIts bs).length = (rdN bs).toNat := rdL_length _ _
 rw [hl] at this
 omega
theorem IsR.magic {bs : List Int} (h : IsR bs) : rdM bs = 1129074503 := by
 have := h.2
 rw [← this]
 unfold rdM
 rw [encL, join_take page_eight, page_eq, List.take_left' (bigI_length _ _)]
 decide
/-! ### Where data end -/
def EndsAt (zs : List Int) (n : Nat) : Prop := n ≤ zs.length ∧ (∀ i, n ≤ i → zs.getD i 0 = 0) ∧ (n = 0 ∨ zs.getD (n - 1) 0 ≠ 0)
def endsN : List Int → Nat
 | [] => 0
 | z :: zs => if endsN zs = 0 then (if z = 0 then 0 else 1) else endsN zs + 1
theorem ends_at : ∀ zs : List Int, EndsAt zs (endsN zs)
 | [] => ⟨by simp [endsN], by simp, .inl rfl⟩
 | z :: zs => by
  obtain ⟨h1, h2, h3⟩ := ends_at zs
  unfold endsN
  split
  ·rename_i h0
   rw [h0] at h2
   split
   ·rename_i hz
    refine ⟨by simp, fun i _ => ?_, .inl rfl⟩
    cases i with
    | zero => simp [hz]
    | succ i => simpa using h2 i (by omega)
   ·rename_i hz
    refine ⟨by simp, fun i hi => ?_, .inr (by simpa using hz)⟩
    cases i with
    | zero => omega
    | succ i => simpa using h2 i (by omega)
  ·rename_i h0
   refine ⟨by simp; omega, fun i hi => ?_, .inr ?_⟩
   ·cases i with
    | zero => omega
    | succ i => simpa using h2 i (by omega)
   ·rcases h3 with h3 | h3
    ·omega
    ·obtain ⟨m, hm⟩ : ∃ m, endsN zs = m + 1 := ⟨endsN zs - 1, by omega⟩
     rw [hm] at h3 ⊢
     simpa using h3
def checkB (x : It) (zs : List Int) : Bool := decide (x.k = 1 ∧ x.e = endsN zs ∧ x.s = crI 0 zs)
def Blk (w : World) (g : Nat) (L : List Value) (t : TypeId) : Prop := w.heap[g]? = some (.cells L.toArray t (0, 0))
theorem Blk.lt {w : World} {g : Nat} {L : List Value} {t : TypeId} (h : Blk w g L t) : g < w.heap.size := (Array.getElem?_eq_some_iff.1 h).1
theorem Blk.cell {w : World} {g : Nat} {L : List Value} {t : TypeId} (h : Blk w g L t) (i : Nat) : w.cell? ⟨g, i, none⟩ = L[i]? := by
 rw [cell_of_row w g i L.toArray t (0, 0) h]; simp
theorem Blk.frozen {w : World} {g : Nat} {L : List Value} {t : TypeId} (h : Blk w g L t) (i : Nat) : w.frozen? ⟨g, i, none⟩ = false := by
 have h' : w.heap[g]? = some (.cells L.toArray t (0, 0)) := h
 simp [World.frozen?, h']
theorem Blk.drew {w : World} {g : Nat} {L : List Value} {t : TypeId} (h : Blk w g L t) : Blk w.drew g L t := h
theorem Blk.drewN {w : World} {g : Nat} {L : List Value} {t : TypeId} (h : Blk w g L t) (n : Nat) : Blk (w.drewN n) g L t := h
theorem Blk.alloc {w : World} {g : Nat} {L : List Value} {t : TypeId} (h : Blk w g L t) (o : Obj) : Blk (w.alloc o) g L t := by
 unfold Blk; rw [Below.heap_alloc w o g h.lt]; exact h
theorem Blk.new (w : World) (L : List Value) (t : TypeId) : Blk (w.alloc (.cells L.toArray t)) w.heap.size L t := by
 show (w.heap.push _)[w.heap.size]? = _
 simp
theorem Blk.new' {w : World} {C : Array Value} {L : List Value} {t : TypeId} {k : Nat} (hk : w.heap.size = k) (hC : C = L.toArray) : Blk (w.alloc (.cells C t)) k L t := by
 subst hk; subst hC; exact Blk.new w L t
theorem Blk.set {w : World} {g : Nat} {L : List Value} {t : TypeId} (h : Blk w g L t) (i : Nat) (v : Value) : Blk (w.setCell ⟨g, i, none⟩ v) g (L.set i v) t := by
 have h' : w.heap[g]? = some (.cells L.toArray t (0, 0)) := h
 unfold Blk
 simp [World.setCell, Array.getElem?_modify, h']
theorem Blk.set_other {w : World} {g : Nat} {L : List Value} {t : TypeId} (h : Blk w g L t) {a : Addr} (hne : g ≠ a.block) (v : Value) : Blk (w.setCell a v) g L t := by
 unfold Blk; rw [Below.heap_setCell w a v g hne]; exact h
theorem Blk.below {w w' : World} {g B : Nat} {L : List Value} {t : TypeId} (h : Blk w g L t) (hb : Below B w w') (hg : g < B) : Blk w' g L t := by
 unfold Blk; rw [hb.block g hg]; exact h
theorem Blk.setCells {g : Nat} {t : TypeId} : ∀ (vs : List Value) (o : Nat) (w : World) (L : List Value), Blk w g L t → o + vs.length ≤ L.length → Blk (w.setCells g o vs) g (splice L o vs) t
 | [], o, w, L, h, _ => by
  have : splice L o ([] : List Value) = L := by simp [splice]
  rw [this]; exact h
 | v :: r, o, w, L, h, hl => by
  have hl' : o + (r.length + 1) ≤ L.length := by simpa using hl
  have := Blk.setCells r (o + 1) _ _ (h.set o v) (by simp; omega)
  have e : splice (L.set o v) (o + 1) r = splice L o (v :: r) := by
   unfold splice
   have ho : o < (L.set o v).length := by simp; omega
   have e1 : (L.set o v).take (o + 1) = L.take o ++ [v] := by
    rw [List.take_succ_eq_append_getElem ho]; simp [List.take_set_of_le]
   have e2 : (L.set o v).drop (o + 1 + r.length) = L.drop (o + (r.length + 1)) := by
    rw [List.drop_set_of_lt (by omega)]; congr 1; omega
   rw [e1, e2]; simp
  rw [← e]; exact this
theorem splice_all {α : Type} (L vs : List α) (h : L.length = vs.length) : splice L 0 vs = vs := by
 unfold splice; simp [h]
theorem Blk.setAll {w : World} {g : Nat} {L vs : List Value} {t : TypeId} (h : Blk w g L t) (hl : L.length = vs.length) : Blk (w.setCells g 0 vs) g vs t := by
 have := Blk.setCells vs 0 w L h (by omega)
 rwa [splice_all L vs hl] at this
theorem kept_set {w : World} {a c : Addr} {v u : Value} (h : w.cell? c = some u) (hne : c.block ≠ a.block) : (w.setCell a v).cell? c = some u := by
 rw [World.cell?_setCell_other _ _ _ _ (by intro e; subst e; exact hne rfl)]; exact h
/-- A result that lies in a variable of its own. -/
theorem results_cell_one {P : Program} {fn : Func} {p : Tmp} {ty : TypeId} (h : fn.results = #[.cell p ty]) (tmps : Array Value) (w : World) (g : Nat) (L : List Value) (t : TypeId) (d : TypeDesc) (hp : tmps.getD p undef = .pointer (some ⟨g, 0, none⟩))
  (hb : Blk w g L t) (hu : P.underlying ty = some d) (hd : d.isRow = true) (hi : (P.info? ty).map (·.size) = some L.length) : (results fn tmps).run P w = .ok (.agg L.toArray) w := by
 exact results_cell_row h tmps w g t L.toArray (0, 0) d hp hb hu (by cases d <;> first | rfl | cases hd) (by simpa using hi)
/-! ### A part of an array -/
end Go.Proofs.YtcdnjeiamihhbabGreat
