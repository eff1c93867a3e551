/- What req tells, as functions on lists of bytes: requests, replies. -/
import Derived.Test.YtlfmdplaoalahaaWOwnT
namespace Go.Proofs.Ytlfmdplaoalahaa
open Go.RowKit
set_option linter.unusedVariables false
set_option maxRecDepth 4000

/-- Widths that there are. -/
def Sane (ws : List Int) : Prop := ∀ x ∈ ws, (wd x : Int) = x
theorem sane_at {ws : List Int} (h : Sane ws) {j : Nat} (hj : j < ws.length) : (wd (ws.getD j 0) : Int) = ws.getD j 0 := by
  have : ws.getD j 0 = ws[j] := by simp [List.getD, hj]
  rw [this]; exact h _ (List.getElem_mem hj)
theorem valL_take (ws : List Int) : ∀ xs, valL (xs.take (offL ws)) ws = valL xs ws := by
  induction ws with
  | nil => intro xs; rfl
  | cons x ws ih =>
    intro xs
    simp only [valL, offL]
    rw [List.take_take, Nat.min_eq_left (Nat.le_add_right _ _), List.drop_take, Nat.add_sub_cancel_left, ih]
/-- Only the front counts for the numbers at the front. -/
theorem takeV_take (xs ws : List Int) : takeV (xs.take (offL ws)) ws = takeV xs ws := by
  unfold takeV
  by_cases h : offL ws ≤ xs.length
  · rw [if_pos h, if_pos (by rw [List.length_take]; omega), valL_take]
  · rw [if_neg h, if_neg (by rw [List.length_take]; omega)]
theorem front_enough (xs ws : List Int) : (offL ws ≤ (xs.take (offL ws)).length) = (offL ws ≤ xs.length) := by
  rw [List.length_take]; apply propext; omega
theorem numI_take {xs : List Int} (h : ∀ z ∈ xs, Fits8 z) (i n : Nat) : 0 ≤ numI ((xs.drop i).take n) ∧ numI ((xs.drop i).take n) < 256 ^ n :=
  numI_small (by rw [List.length_take]; omega) (fun z hz => h z (List.mem_of_mem_drop (List.mem_of_mem_take hz)))

/-- A request's numbers. -/
structure Rq where
  fl : Int
  kd : Int
  ck : Int
  ofs : Int
  ln : Int
def rq0 : Rq := ⟨0, 0, 0, 0, 0⟩
def Fits16 (z : Int) : Prop := 0 ≤ z ∧ z < 65536
def Fits32 (z : Int) : Prop := 0 ≤ z ∧ z < 4294967296
def Rq.Fits (r : Rq) : Prop := Fits16 r.fl ∧ Fits16 r.kd ∧ FitsU r.ck ∧ FitsU r.ofs ∧ Fits32 r.ln
theorem rq0_fits : rq0.Fits := by simp [Rq.Fits, rq0, Fits16, FitsU, Fits32]
def rqW : List Int := [4, 2, 2, 8, 8, 4]
def rpW : List Int := [4, 4, 8]
theorem sane_rq : Sane rqW := by intro x hx; simp only [rqW, List.mem_cons, List.not_mem_nil, or_false] at hx; rcases hx with rfl | rfl | rfl | rfl | rfl | rfl <;> rfl
theorem sane_rp : Sane rpW := by intro x hx; simp only [rpW, List.mem_cons, List.not_mem_nil, or_false] at hx; rcases hx with rfl | rfl | rfl <;> rfl
theorem off_rq : offL rqW = 28 := rfl
theorem off_rp : offL rpW = 16 := rfl
def rqMagic : Int := 627086611
def rpMagic : Int := 1732535960
def hM (xs : List Int) : Int := numI (xs.take 4)
def hR (xs : List Int) : Rq := ⟨numI ((xs.drop 4).take 2), numI ((xs.drop 6).take 2), numI ((xs.drop 8).take 8), numI ((xs.drop 16).take 8), numI ((xs.drop 24).take 4)⟩
theorem take_rq (xs : List Int) (h : 28 ≤ xs.length) : takeV xs rqW = [hM xs, (hR xs).fl, (hR xs).kd, (hR xs).ck, (hR xs).ofs, (hR xs).ln] := by
  unfold takeV
  rw [if_pos (by rw [off_rq]; exact h)]
  simp [rqW, valL, wd, hM, hR, List.drop_drop]
theorem val_rq (xs : List Int) : valL xs rqW = [hM xs, (hR xs).fl, (hR xs).kd, (hR xs).ck, (hR xs).ofs, (hR xs).ln] := by
  simp [rqW, valL, wd, hM, hR, List.drop_drop]
theorem rest_rq (xs : List Int) (h : 28 ≤ xs.length) : takeR xs rqW = xs.drop 28 := by
  unfold takeR
  rw [if_pos (by rw [off_rq]; exact h), off_rq]
theorem hR_fits {xs : List Int} (h : ∀ z ∈ xs, Fits8 z) : (hR xs).Fits := by
  have h1 := numI_take h 4 2
  have h2 := numI_take h 6 2
  have h3 := numI_take h 8 8
  have h4 := numI_take h 16 8
  have h5 := numI_take h 24 4
  have e2 : (256 : Int) ^ 2 = 65536 := by decide
  have e8 : (256 : Int) ^ 8 = 18446744073709551616 := by decide
  have e4 : (256 : Int) ^ 4 = 4294967296 := by decide
  rw [e2] at h1 h2
  rw [e8] at h3 h4
  rw [e4] at h5
  exact ⟨h1, h2, h3, h4, h5⟩
theorem hM_fits {xs : List Int} (h : ∀ z ∈ xs, Fits8 z) : 0 ≤ hM xs ∧ hM xs < 4294967296 := by have := numI_take h 0 4; rwa [List.drop_zero] at this

/-- What Next tells: its error, the request, its data, how many bytes. -/
def nxE (xs : List Int) : Int := if xs.length < 28 then 80 else if hM xs ≠ rqMagic then 81 else if (hR xs).kd = 1 then (if 65536 < (hR xs).ln then 82 else if (xs.length : Int) < 28 + (hR xs).ln then 80 else 0) else 0
def nxR (xs : List Int) : Rq := if nxE xs = 0 then hR xs else rq0
def nxD (xs : List Int) : List Int := if nxE xs = 0 ∧ (hR xs).kd = 1 then (xs.drop 28).take (hR xs).ln.toNat else []
def nxC (xs : List Int) : Int := if nxE xs = 0 then (if (hR xs).kd = 1 then 28 + (hR xs).ln else 28) else 0
theorem nx_bad {xs : List Int} {e : Int} (h : nxE xs = e) (h0 : e ≠ 0) : nxR xs = rq0 ∧ nxD xs = [] ∧ nxC xs = 0 ∧ nxE xs = e := by
  have : ¬ nxE xs = 0 := by rw [h]; exact h0
  exact ⟨if_neg this, if_neg (fun k => this k.1), if_neg this, h⟩
theorem nx_few {xs : List Int} (h : xs.length < 28) : nxR xs = rq0 ∧ nxD xs = [] ∧ nxC xs = 0 ∧ nxE xs = 80 :=
  nx_bad (by unfold nxE; rw [if_pos h]) (by decide)
theorem nx_magic {xs : List Int} (h : ¬ xs.length < 28) (h1 : hM xs ≠ rqMagic) : nxR xs = rq0 ∧ nxD xs = [] ∧ nxC xs = 0 ∧ nxE xs = 81 :=
  nx_bad (by unfold nxE; rw [if_neg h, if_pos h1]) (by decide)
theorem nx_other {xs : List Int} (h : ¬ xs.length < 28) (h1 : hM xs = rqMagic) (h2 : (hR xs).kd ≠ 1) : nxR xs = hR xs ∧ nxD xs = [] ∧ nxC xs = 28 ∧ nxE xs = 0 := by
  have hE : nxE xs = 0 := by unfold nxE; rw [if_neg h, if_neg (fun k => k h1), if_neg h2]
  exact ⟨if_pos hE, if_neg (fun k => h2 k.2), by unfold nxC; rw [if_pos hE, if_neg h2], hE⟩
theorem nx_long {xs : List Int} (h : ¬ xs.length < 28) (h1 : hM xs = rqMagic) (h2 : (hR xs).kd = 1) (h3 : 65536 < (hR xs).ln) : nxR xs = rq0 ∧ nxD xs = [] ∧ nxC xs = 0 ∧ nxE xs = 82 :=
  nx_bad (by unfold nxE; rw [if_neg h, if_neg (fun k => k h1), if_pos h2, if_pos h3]) (by decide)
theorem nx_more {xs : List Int} (h : ¬ xs.length < 28) (h1 : hM xs = rqMagic) (h2 : (hR xs).kd = 1) (h3 : ¬ 65536 < (hR xs).ln) (h4 : (xs.length : Int) < 28 + (hR xs).ln) : nxR xs = rq0 ∧ nxD xs = [] ∧ nxC xs = 0 ∧ nxE xs = 80 :=
  nx_bad (by unfold nxE; rw [if_neg h, if_neg (fun k => k h1), if_pos h2, if_neg h3, if_pos h4]) (by decide)
theorem nx_good {xs : List Int} (h : ¬ xs.length < 28) (h1 : hM xs = rqMagic) (h2 : (hR xs).kd = 1) (h3 : ¬ 65536 < (hR xs).ln) (h4 : ¬ (xs.length : Int) < 28 + (hR xs).ln) :
    nxR xs = hR xs ∧ nxD xs = (xs.drop 28).take (hR xs).ln.toNat ∧ nxC xs = 28 + (hR xs).ln ∧ nxE xs = 0 := by
  have hE : nxE xs = 0 := by unfold nxE; rw [if_neg h, if_neg (fun k => k h1), if_pos h2, if_neg h3, if_neg h4]
  exact ⟨if_pos hE, if_pos ⟨hE, h2⟩, by unfold nxC; rw [if_pos hE, if_pos h2], hE⟩
theorem nxE_is (xs : List Int) : nxE xs = 80 ∨ nxE xs = 81 ∨ nxE xs = 82 ∨ nxE xs = 0 := by
  unfold nxE
  split
  · exact .inl rfl
  · split
    · exact .inr (.inl rfl)
    · split
      · split
        · exact .inr (.inr (.inl rfl))
        · split
          · exact .inl rfl
          · exact .inr (.inr (.inr rfl))
      · exact .inr (.inr (.inr rfl))
theorem nxD_fits {xs : List Int} (h : ∀ z ∈ xs, Fits8 z) : ∀ z ∈ nxD xs, Fits8 z := by
  unfold nxD
  split
  · exact fun z hz => h z (List.mem_of_mem_drop (List.mem_of_mem_take hz))
  · simp

/-- A request as bytes. -/
def wrN (r : Rq) (n : Nat) : Int := if r.kd = 1 then (n : Int) else r.ln
def wrV (r : Rq) (n : Int) : List Int := [rqMagic, r.fl, r.kd, r.ck, r.ofs, n]
def wrL (r : Rq) (D : List Int) : List Int := packL rqW (wrV r (wrN r D.length)) ++ (if r.kd = 1 then D else [])
/-- A request as it is read again. -/
def wrR (r : Rq) (n : Nat) : Rq := if r.kd = 1 then { r with ln := (n : Int) } else r
def wrD (r : Rq) (D : List Int) : List Int := if r.kd = 1 then D else []
theorem wrV_fits {r : Rq} {n : Int} (h : r.Fits) (hn : FitsU n) : ∀ z ∈ wrV r n, FitsU z := by
  obtain ⟨h1, h2, h3, h4, h5⟩ := h
  intro z hz
  simp only [wrV, List.mem_cons, List.not_mem_nil, or_false] at hz
  unfold Fits16 at h1 h2
  unfold FitsU at *
  unfold rqMagic at hz
  rcases hz with rfl | rfl | rfl | rfl | rfl | rfl <;> omega
theorem wrL_length (r : Rq) (D : List Int) : (wrL r D).length = 28 + (wrD r D).length := by
  unfold wrL wrD
  rw [List.length_append, packL_length _ _ (by simp [rqW, wrV]), off_rq]
theorem pack_fit : ∀ (a c : List Int) (z : Int), z ∈ packL a c → Fits8 z := fun a c z h => packL_fits a c z h
theorem wrL_fits {r : Rq} {D : List Int} (hD : ∀ z ∈ D, Fits8 z) : ∀ z ∈ wrL r D, Fits8 z := by
  intro z hz
  unfold wrL at hz
  rcases List.mem_append.1 hz with h | h
  · exact packL_fits _ _ z h
  · split at h
    · exact hD z h
    · simp at h
theorem head_parts {r : Rq} {n : Int} (h : r.Fits) (hn : Fits32 n) (Y : List Int) : hM (packL rqW (wrV r n) ++ Y) = rqMagic ∧ hR (packL rqW (wrV r n) ++ Y) = { r with ln := n } := by
  have hU : FitsU n := by unfold Fits32 at hn; unfold FitsU; omega
  have hv := val_pack rqW (wrV r n) Y (by simp [rqW, wrV]) (wrV_fits h hU)
  rw [val_rq] at hv
  obtain ⟨h1, h2, h3, h4, h5⟩ := h
  unfold Fits16 at h1 h2
  unfold FitsU at h3 h4
  unfold Fits32 at hn
  have hm : modL rqW (wrV r n) = [rqMagic, r.fl, r.kd, r.ck, r.ofs, n] := by
    simp only [rqW, wrV, modL, wd]
    simp only [show (4 : Int) ≠ 1 by decide, show (4 : Int) ≠ 2 by decide, show (2 : Int) ≠ 1 by decide, show (8 : Int) ≠ 1 by decide, show (8 : Int) ≠ 2 by decide, show (8 : Int) ≠ 4 by decide, if_true, if_false]
    rw [show (256 : Int) ^ 4 = 4294967296 by decide, show (256 : Int) ^ 2 = 65536 by decide, show (256 : Int) ^ 8 = 18446744073709551616 by decide]
    rw [Int.emod_eq_of_lt h1.1 h1.2, Int.emod_eq_of_lt h2.1 h2.2, Int.emod_eq_of_lt h3.1 h3.2, Int.emod_eq_of_lt h4.1 h4.2, Int.emod_eq_of_lt hn.1 hn.2]
    rfl
  rw [hm] at hv
  simp only [List.cons.injEq, and_true] at hv
  obtain ⟨e1, e2, e3, e4, e5, e6⟩ := hv
  refine ⟨e1, ?_⟩
  generalize hR (packL rqW (wrV r n) ++ Y) = g at e2 e3 e4 e5 e6 ⊢
  obtain ⟨a, b, c, d, e⟩ := g
  simp only at e2 e3 e4 e5 e6
  rw [e2, e3, e4, e5, e6]
theorem wrN_fits {r : Rq} (h : r.Fits) {n : Nat} (hn : n ≤ 65536) : Fits32 (wrN r n) := by
  unfold wrN
  split
  · unfold Fits32; omega
  · exact h.2.2.2.2
theorem wrR_ln (r : Rq) (n : Nat) : { r with ln := wrN r n } = wrR r n := by
  unfold wrN wrR
  split <;> rfl
/-- What is written is read, whatever stands behind. -/
theorem next_whole {r : Rq} (h : r.Fits) (D Y : List Int) (hn : D.length ≤ 65536) :
    nxR (wrL r D ++ Y) = wrR r D.length ∧ nxD (wrL r D ++ Y) = wrD r D ∧ nxC (wrL r D ++ Y) = ((wrL r D).length : Nat) ∧ nxE (wrL r D ++ Y) = 0 := by
  obtain ⟨p1, p2⟩ := head_parts h (wrN_fits h hn) (wrD r D ++ Y)
  rw [wrR_ln] at p2
  have e : packL rqW (wrV r (wrN r D.length)) ++ (wrD r D ++ Y) = wrL r D ++ Y := by rw [← List.append_assoc]; rfl
  rw [e] at p1 p2
  have hp : (packL rqW (wrV r (wrN r D.length))).length = 28 := by rw [packL_length _ _ (by simp [rqW, wrV]), off_rq]
  have hl : (wrL r D ++ Y).length = 28 + ((wrD r D).length + Y.length) := by rw [List.length_append, wrL_length]; omega
  have hd : (wrL r D ++ Y).drop 28 = wrD r D ++ Y := by rw [← e]; exact List.drop_left' hp
  rw [wrL_length]
  by_cases hk : r.kd = 1
  · have hln : (wrR r D.length).ln = (D.length : Nat) := by unfold wrR; rw [if_pos hk]
    have hkd : (wrR r D.length).kd = 1 := by unfold wrR; rw [if_pos hk]; exact hk
    have hD : wrD r D = D := if_pos hk
    rw [hD] at hl hd
    obtain ⟨r1, r2, r3, r4⟩ := nx_good (xs := wrL r D ++ Y) (by rw [hl]; omega) p1 (by rw [p2]; exact hkd) (by rw [p2, hln]; omega) (by rw [p2, hln, hl]; omega)
    rw [p2] at r1 r2 r3
    rw [hln] at r2 r3
    refine ⟨r1, ?_, by rw [r3, hD]; omega, r4⟩
    rw [r2, hD, hd, Int.toNat_natCast]
    exact List.take_left' rfl
  · have hkd : (wrR r D.length).kd ≠ 1 := by unfold wrR; rw [if_neg hk]; exact hk
    have hD : wrD r D = [] := if_neg hk
    rw [hD] at hl
    obtain ⟨r1, r2, r3, r4⟩ := nx_other (xs := wrL r D ++ Y) (by rw [hl]; simp) p1 (by rw [p2]; exact hkd)
    rw [p2] at r1
    exact ⟨r1, by rw [r2, hD], by rw [r3, hD]; simp, r4⟩
/-- A front of it is not enough. -/
theorem next_front {r : Rq} (h : r.Fits) (D : List Int) (hn : D.length ≤ 65536) {cut : Nat} (hc : cut < (wrL r D).length) :
    nxC ((wrL r D).take cut) = 0 ∧ nxE ((wrL r D).take cut) = 80 := by
  have hl : ((wrL r D).take cut).length = cut := by rw [List.length_take]; omega
  by_cases h28 : cut < 28
  · obtain ⟨_, _, r3, r4⟩ := nx_few (xs := (wrL r D).take cut) (by rw [hl]; exact h28)
    exact ⟨r3, r4⟩
  · have hp : (packL rqW (wrV r (wrN r D.length))).length = 28 := by rw [packL_length _ _ (by simp [rqW, wrV]), off_rq]
    have e : (wrL r D).take cut = packL rqW (wrV r (wrN r D.length)) ++ (wrD r D).take (cut - 28) := by
      show (packL rqW (wrV r (wrN r D.length)) ++ wrD r D).take cut = _
      rw [List.take_append, hp, List.take_of_length_le (by rw [hp]; omega)]
    obtain ⟨p1, p2⟩ := head_parts h (wrN_fits h hn) ((wrD r D).take (cut - 28))
    rw [wrR_ln] at p2
    rw [← e] at p1 p2
    have hk : r.kd = 1 := by
      apply Classical.byContradiction
      intro hk
      rw [wrL_length, show wrD r D = [] from if_neg hk] at hc
      simp at hc
      omega
    have hln : (wrR r D.length).ln = (D.length : Nat) := by unfold wrR; rw [if_pos hk]
    have hkd : (wrR r D.length).kd = 1 := by unfold wrR; rw [if_pos hk]; exact hk
    rw [wrL_length, show wrD r D = D from if_pos hk] at hc
    obtain ⟨_, _, r3, r4⟩ := nx_more (xs := (wrL r D).take cut) (by rw [hl]; exact h28) p1 (by rw [p2]; exact hkd) (by rw [p2, hln]; omega) (by rw [p2, hln, hl]; omega)
    exact ⟨r3, r4⟩

/-- A reply as bytes. -/
def rpL (a c : Int) (D : List Int) : List Int := packL rpW [rpMagic, a, c] ++ D
def pM (xs : List Int) : Int := numI (xs.take 4)
def pA (xs : List Int) : Int := numI ((xs.drop 4).take 4)
def pC (xs : List Int) : Int := numI ((xs.drop 8).take 8)
theorem val_rp (xs : List Int) : valL xs rpW = [pM xs, pA xs, pC xs] := by simp [rpW, valL, wd, pM, pA, pC, List.drop_drop]
theorem take_rp (xs : List Int) (h : 16 ≤ xs.length) : takeV xs rpW = [pM xs, pA xs, pC xs] := by
  unfold takeV
  rw [if_pos (by rw [off_rp]; exact h), val_rp]
theorem rest_rp (xs : List Int) (h : 16 ≤ xs.length) : takeR xs rpW = xs.drop 16 := by
  unfold takeR
  rw [if_pos (by rw [off_rp]; exact h), off_rp]
theorem pA_fits {xs : List Int} (h : ∀ z ∈ xs, Fits8 z) : Fits32 (pA xs) := numI_take h 4 4
theorem pC_fits {xs : List Int} (h : ∀ z ∈ xs, Fits8 z) : FitsU (pC xs) := numI_take h 8 8
/-- How many bytes of data a reply has. -/
def pN (f : Int → Int) (xs : List Int) : Int := if pA xs = 0 then f (pC xs) else 0
def StepOk (f : Int → Int) (xs : List Int) : Prop := 16 ≤ xs.length ∧ pM xs = rpMagic ∧ pN f xs ≤ ((xs.length - 16 : Nat) : Int)
instance (f : Int → Int) (xs : List Int) : Decidable (StepOk f xs) := by unfold StepOk; infer_instance
structure Rp where
  a : Int
  c : Int
  d : List Int
def rpOne (f : Int → Int) (xs : List Int) : Rp := ⟨pA xs, pC xs, (xs.drop 16).take (pN f xs).toNat⟩
def rpRest (f : Int → Int) (xs : List Int) : List Int := xs.drop (16 + (pN f xs).toNat)
/-- The replies that bytes are. -/
def rpAll (f : Int → Int) (xs : List Int) : Option (List Rp) := if xs.length = 0 then some [] else if StepOk f xs then (rpAll f (rpRest f xs)).map (rpOne f xs :: ·) else none
termination_by xs.length
decreasing_by
  unfold rpRest
  rw [List.length_drop]
  omega
theorem rpAll_nil (f : Int → Int) : rpAll f [] = some [] := by rw [rpAll]; rfl
theorem rpAll_step {f : Int → Int} {xs : List Int} (h : StepOk f xs) : rpAll f xs = (rpAll f (rpRest f xs)).map (rpOne f xs :: ·) := by
  rw [rpAll, if_neg (by have := h.1; omega), if_pos h]
theorem rpAll_bad {f : Int → Int} {xs : List Int} (h0 : xs.length ≠ 0) (h : ¬ StepOk f xs) : rpAll f xs = none := by
  rw [rpAll, if_neg h0, if_neg h]
def rpList (f : Int → Int) (xs : List Int) : List Rp := (rpAll f xs).getD []
def rpIs (f : Int → Int) (xs : List Int) : Bool := (rpAll f xs).isSome
/-- One more. -/
theorem more_step {f : Int → Int} {xs ys : List Int} {P : List Rp} (h : rpAll f xs = (rpAll f ys).map (P ++ ·)) (hs : StepOk f ys) : rpAll f xs = (rpAll f (rpRest f ys)).map ((P ++ [rpOne f ys]) ++ ·) := by
  rw [h, rpAll_step hs, Option.map_map]
  congr 1
  funext z
  simp
theorem more_end {f : Int → Int} {xs ys : List Int} {P : List Rp} (h : rpAll f xs = (rpAll f ys).map (P ++ ·)) (h0 : ys.length = 0) : rpList f xs = P ∧ rpIs f xs = true := by
  obtain rfl := List.length_eq_zero_iff.1 h0
  rw [rpAll_nil] at h
  unfold rpList rpIs
  rw [h]
  simp
theorem more_bad {f : Int → Int} {xs ys : List Int} {P : List Rp} (h : rpAll f xs = (rpAll f ys).map (P ++ ·)) (h0 : ys.length ≠ 0) (hs : ¬ StepOk f ys) : rpList f xs = [] ∧ rpIs f xs = false := by
  unfold rpList rpIs
  rw [h, rpAll_bad h0 hs]
  exact ⟨rfl, rfl⟩
end Go.Proofs.Ytlfmdplaoalahaa
