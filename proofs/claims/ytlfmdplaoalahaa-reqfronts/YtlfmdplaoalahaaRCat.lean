/- Requests one behind the other, replies one behind the other: the mathematics. -/
import Derived.Test.YtlfmdplaoalahaaROpen
namespace Go.Proofs.Ytlfmdplaoalahaa
open Go.RowKit
set_option linter.unusedVariables false
set_option maxRecDepth 4000

/-- Requests as bytes, one behind the other. -/
def catW (rs : List (Rq × List Int)) : List Int := (rs.map fun p => wrL p.1 p.2).flatten
theorem catW_snoc (rs : List (Rq × List Int)) (p : Rq × List Int) : catW (rs ++ [p]) = catW rs ++ wrL p.1 p.2 := by simp [catW]
theorem catW_cons (p : Rq × List Int) (rs : List (Rq × List Int)) : catW (p :: rs) = wrL p.1 p.2 ++ catW rs := by simp [catW]
theorem catW_fits {rs : List (Rq × List Int)} (h : ∀ p ∈ rs, ∀ z ∈ p.2, Fits8 z) : ∀ z ∈ catW rs, Fits8 z := by
  intro z hz
  unfold catW at hz
  obtain ⟨l, hl, hz⟩ := List.mem_flatten.1 hz
  obtain ⟨p, hp, rfl⟩ := List.mem_map.1 hl
  exact wrL_fits (h p hp) z hz
theorem take_snoc {α : Type} {l : List α} {j : Nat} {p : α} (h : l[j]? = some p) : l.take (j + 1) = l.take j ++ [p] := by
  obtain ⟨hj, rfl⟩ := List.getElem?_eq_some_iff.1 h
  exact List.take_succ_eq_append_getElem hj
theorem drop_cons {α : Type} {l : List α} {j : Nat} {p : α} (h : l[j]? = some p) : l.drop j = p :: l.drop (j + 1) := by
  obtain ⟨hj, rfl⟩ := List.getElem?_eq_some_iff.1 h
  exact List.drop_eq_getElem_cons hj
theorem wrR_ck (r : Rq) (n : Nat) : (wrR r n).ck = r.ck := by unfold wrR; split <;> rfl
theorem wrR_kd (r : Rq) (n : Nat) : (wrR r n).kd = r.kd := by unfold wrR; split <;> rfl
theorem wrR_ofs (r : Rq) (n : Nat) : (wrR r n).ofs = r.ofs := by unfold wrR; split <;> rfl
theorem wrD_few (r : Rq) (D : List Int) : (wrD r D).length ≤ D.length := by unfold wrD; split <;> simp
/-- One request of those that came in. -/
theorem RsIn.one {w : World} {b off n : Nat} {rs : List (Rq × List Int)} (hc : ∀ (i : Nat) (p : Rq × List Int), rs[i]? = some p → ∃ A k C, p.1.Fits ∧ DIn w A k C p.2 ∧ ∀ (j : Nat) (v : Value), (reqL p.1 A k C)[j]? = some v → w.cell? ⟨b, off + i * 6 + j, none⟩ = some v) {wr : World} (hb : Below w.heap.size w wr) {j : Nat} (hj : j < rs.length) :
    ∃ p, rs[j]? = some p ∧ ∃ A k C, p.1.Fits ∧ DIn wr A k C p.2 ∧ p.2.length = k ∧ wr.rangeAt b (off + j * 6) (reqL p.1 A k C) := by
  refine ⟨rs[j], List.getElem?_eq_getElem hj, ?_⟩
  obtain ⟨A, k, C, f, d, c⟩ := hc j rs[j] (List.getElem?_eq_getElem hj)
  exact ⟨A, k, C, f, d.below hb, d.1.1, fun i v hv => by rw [hb.cell (old_block (c i v hv))]; exact c i v hv⟩
theorem RsIn.fits {w : World} {a : Option Addr} {n : Nat} {rs : List (Rq × List Int)} (h : RsIn w a n rs) : ∀ p ∈ rs, p.1.Fits ∧ ∀ z ∈ p.2, Fits8 z := by
  intro p hp
  obtain ⟨i, hi, rfl⟩ := List.mem_iff_getElem.1 hp
  rcases h.2 with h0 | ⟨b, off, _, hc⟩
  · rw [h.1, h0] at hi; omega
  · obtain ⟨A, k, C, f, d, _⟩ := hc i rs[i] (List.getElem?_eq_getElem hi)
    exact ⟨f, d.1.2.2.1⟩

/-- Replies as bytes, one behind the other, their cookies from i on. -/
def catR : Nat → List (Rq × List Int) → List Int
  | _, [] => []
  | i, p :: rs => rpL 0 (i : Int) p.2 ++ catR (i + 1) rs
theorem catR_snoc : ∀ (rs : List (Rq × List Int)) (i : Nat) (p : Rq × List Int), catR i (rs ++ [p]) = catR i rs ++ rpL 0 ((i + rs.length : Nat) : Int) p.2 := by
  intro rs
  induction rs with
  | nil => intro i p; simp [catR]
  | cons r rs ih =>
    intro i p
    simp only [List.cons_append, catR, List.length_cons]
    rw [ih, List.append_assoc, show i + 1 + rs.length = i + (rs.length + 1) by omega]
theorem rpL_length (x y : Int) (D : List Int) : (rpL x y D).length = 16 + D.length := by unfold rpL; rw [List.length_append, pack16]
theorem rpL_fits (x y : Int) {D : List Int} (h : ∀ z ∈ D, Fits8 z) : ∀ z ∈ rpL x y D, Fits8 z := by
  intro z hz
  rcases List.mem_append.1 hz with hz | hz
  · exact packL_fits _ _ z hz
  · exact h z hz
theorem catR_fits : ∀ (rs : List (Rq × List Int)) (i : Nat), (∀ p ∈ rs, ∀ z ∈ p.2, Fits8 z) → ∀ z ∈ catR i rs, Fits8 z := by
  intro rs
  induction rs with
  | nil => intro i h z hz; simp [catR] at hz
  | cons r rs ih =>
    intro i h z hz
    simp only [catR] at hz
    rcases List.mem_append.1 hz with hz | hz
    · exact rpL_fits _ _ (h r (by simp)) z hz
    · exact ih (i + 1) (fun p hp => h p (by simp [hp])) z hz
theorem reply_parts {y : Int} (hy : FitsU y) (R : List Int) : pM (packL rpW [rpMagic, 0, y] ++ R) = rpMagic ∧ pA (packL rpW [rpMagic, 0, y] ++ R) = 0 ∧ pC (packL rpW [rpMagic, 0, y] ++ R) = y := by
  have hv := val_pack rpW [rpMagic, 0, y] R (by simp [rpW]) (fits3 rpM_fits ⟨Int.le_refl _, by omega⟩ hy)
  rw [val_rp] at hv
  unfold FitsU at hy
  have hm : modL rpW [rpMagic, 0, y] = [rpMagic, 0, y] := by
    simp only [rpW, modL, wd]
    simp only [show (4 : Int) ≠ 1 by decide, show (4 : Int) ≠ 2 by decide, show (8 : Int) ≠ 1 by decide, show (8 : Int) ≠ 2 by decide, show (8 : Int) ≠ 4 by decide, if_true, if_false]
    rw [show (256 : Int) ^ 4 = 4294967296 by decide, show (256 : Int) ^ 8 = 18446744073709551616 by decide, Int.emod_eq_of_lt hy.1 hy.2]
    rfl
  rw [hm] at hv
  simp only [List.cons.injEq, and_true] at hv
  exact hv
/-- A reply at the front of bytes, with its length in the map. -/
theorem reply_step {f : Int → Int} {y : Int} {D T : List Int} (hy : FitsU y) (hf : f y = (D.length : Nat)) : StepOk f (rpL 0 y D ++ T) ∧ rpOne f (rpL 0 y D ++ T) = ⟨0, y, D⟩ ∧ rpRest f (rpL 0 y D ++ T) = T := by
  have e : rpL 0 y D ++ T = packL rpW [rpMagic, 0, y] ++ (D ++ T) := by unfold rpL; rw [List.append_assoc]
  obtain ⟨p1, p2, p3⟩ := reply_parts hy (D ++ T)
  rw [← e] at p1 p2 p3
  have eN : pN f (rpL 0 y D ++ T) = (D.length : Nat) := by unfold pN; rw [p2, p3, if_pos rfl, hf]
  have hl : (rpL 0 y D ++ T).length = 16 + D.length + T.length := by rw [List.length_append, rpL_length]
  have hd : (rpL 0 y D ++ T).drop 16 = D ++ T := by rw [e]; exact List.drop_left' (pack16 0 y)
  refine ⟨⟨by rw [hl]; omega, p1, by rw [eN, hl]; omega⟩, ?_, ?_⟩
  · unfold rpOne
    rw [p2, p3, eN, Int.toNat_natCast, hd, List.take_left' rfl]
  · unfold rpRest
    rw [eN, Int.toNat_natCast, ← List.drop_drop, hd, List.drop_left' rfl]
/-- The map has each reply's length. -/
def MapOk (f : Int → Int) (i : Nat) (rs : List (Rq × List Int)) : Prop := ∀ j p, rs[j]? = some p → f ((i + j : Nat) : Int) = (p.2.length : Nat)
theorem MapOk.tail {f : Int → Int} {i : Nat} {p : Rq × List Int} {rs : List (Rq × List Int)} (h : MapOk f i (p :: rs)) : MapOk f (i + 1) rs := fun j q hq => by
  have := h (j + 1) q (by simpa using hq)
  rwa [show i + (j + 1) = i + 1 + j by omega] at this
def repsOf : Nat → List (Rq × List Int) → List Rp
  | _, [] => []
  | i, p :: rs => ⟨0, (i : Int), p.2⟩ :: repsOf (i + 1) rs
theorem repsOf_length : ∀ (rs : List (Rq × List Int)) (i : Nat), (repsOf i rs).length = rs.length := by
  intro rs
  induction rs with
  | nil => intro i; rfl
  | cons r rs ih => intro i; simp [repsOf, ih]
theorem repsOf_at : ∀ (rs : List (Rq × List Int)) (i j : Nat) (p : Rq × List Int), rs[j]? = some p → (repsOf i rs)[j]? = some ⟨0, ((i + j : Nat) : Int), p.2⟩ := by
  intro rs
  induction rs with
  | nil => intro i j p h; simp at h
  | cons r rs ih =>
    intro i j p h
    cases j with
    | zero => simp at h; subst h; simp [repsOf]
    | succ j => simp at h; have := ih (i + 1) j p h; simp only [repsOf, List.getElem?_cons_succ]; rw [this, show i + 1 + j = i + (j + 1) by omega]
/-- They are read as they were written, whatever stands behind decides. -/
theorem many_then {f : Int → Int} : ∀ (rs : List (Rq × List Int)) (i : Nat) (T : List Int), i + rs.length ≤ 1000000 → MapOk f i rs → rpAll f (catR i rs ++ T) = (rpAll f T).map (repsOf i rs ++ ·) := by
  intro rs
  induction rs with
  | nil =>
    intro i T _ _
    simp only [catR, List.nil_append, repsOf]
    cases rpAll f T <;> rfl
  | cons p rs ih =>
    intro i T hi h
    have hf : f (i : Int) = (p.2.length : Nat) := by have := h 0 p rfl; simpa using this
    obtain ⟨s1, s2, s3⟩ := reply_step (f := f) (y := (i : Int)) (D := p.2) (T := catR (i + 1) rs ++ T) ⟨by omega, by simp at hi; omega⟩ hf
    simp only [catR]
    rw [List.append_assoc, rpAll_step s1, s2, s3, ih (i + 1) T (by simp at hi; omega) h.tail, Option.map_map]
    congr 1
theorem many_all {f : Int → Int} (rs : List (Rq × List Int)) (h : MapOk f 0 rs) (hl : rs.length ≤ 1000000) : rpList f (catR 0 rs) = repsOf 0 rs ∧ rpIs f (catR 0 rs) = true := by
  have := many_then rs 0 [] (by omega) h
  rw [List.append_nil, rpAll_nil] at this
  unfold rpList rpIs
  rw [this]
  simp
/-- A byte more. -/
theorem many_more {f : Int → Int} (rs : List (Rq × List Int)) (h : MapOk f 0 rs) (hl : rs.length ≤ 1000000) (z : Int) : rpIs f (catR 0 rs ++ [z]) = false := by
  have := many_then rs 0 [z] (by omega) h
  rw [rpAll_bad (xs := [z]) (by simp) (fun hs => by have := hs.1; simp at this)] at this
  unfold rpIs
  rw [this]
  rfl
/-- A byte less. -/
theorem many_less {f : Int → Int} (rs : List (Rq × List Int)) (h : MapOk f 0 rs) (hl : rs.length ≤ 1000000) (h0 : 0 < rs.length) : rpIs f ((catR 0 rs).take ((catR 0 rs).length - 1)) = false := by
  obtain ⟨qs, p, rfl⟩ : ∃ qs p, rs = qs ++ [p] := ⟨rs.dropLast, rs.getLast (by intro e; subst e; simp at h0), (List.dropLast_concat_getLast _).symm⟩
  have hq : MapOk f 0 qs := fun j r hr => h j r (by rw [List.getElem?_append_left ((List.getElem?_eq_some_iff.1 hr).1)]; exact hr)
  have hp : f ((qs.length : Nat) : Int) = (p.2.length : Nat) := by have := h qs.length p (by simp); simpa using this
  rw [catR_snoc, Nat.zero_add]
  have hlen : (catR 0 qs ++ rpL 0 ((qs.length : Nat) : Int) p.2).length - 1 = (catR 0 qs).length + (15 + p.2.length) := by rw [List.length_append, rpL_length]; omega
  rw [hlen, List.take_append, List.take_of_length_le (by omega), Nat.add_sub_cancel_left]
  have hm := many_then qs 0 ((rpL 0 ((qs.length : Nat) : Int) p.2).take (15 + p.2.length)) (by simp at hl; omega) hq
  have hln : ((rpL 0 ((qs.length : Nat) : Int) p.2).take (15 + p.2.length)).length = 15 + p.2.length := by rw [List.length_take, rpL_length]; omega
  have hbad : ¬ StepOk f ((rpL 0 ((qs.length : Nat) : Int) p.2).take (15 + p.2.length)) := by
    intro hs
    have h16 := hs.1
    rw [hln] at h16
    have e : (rpL 0 ((qs.length : Nat) : Int) p.2).take (15 + p.2.length) = packL rpW [rpMagic, 0, ((qs.length : Nat) : Int)] ++ p.2.take (15 + p.2.length - 16) := by
      unfold rpL
      rw [List.take_append, pack16, List.take_of_length_le (by rw [pack16]; omega)]
    obtain ⟨_, p2, p3⟩ := reply_parts (y := ((qs.length : Nat) : Int)) ⟨by omega, by simp at hl; omega⟩ (p.2.take (15 + p.2.length - 16))
    rw [← e] at p2 p3
    have hN := hs.2.2
    unfold pN at hN
    rw [p2, p3, if_pos rfl, hp, hln] at hN
    omega
  rw [rpAll_bad (by rw [hln]; omega) hbad] at hm
  unfold rpIs
  rw [hm]
  rfl
end Go.Proofs.Ytlfmdplaoalahaa
