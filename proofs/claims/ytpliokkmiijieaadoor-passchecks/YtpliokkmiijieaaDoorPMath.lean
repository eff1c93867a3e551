/- Numbers as bytes, the highest first; a token's body; what Look and Check say, as functions on lists. -/
import Derived.Test.YtpliokkmiijieaaDoorSpMath
import Derived.Test.YtpliokkmiijieaaDoorMacI
namespace Go.Proofs.YtpliokkmiijieaaDoor
open Go.RowKit
set_option linter.unusedVariables false
set_option maxRecDepth 4000

/-- The number whose bytes these are. -/
def numI (bs : List Int) : Int := bs.foldl (fun n x => n * 256 + x) 0
theorem numI_snoc (bs : List Int) (x : Int) : numI (bs ++ [x]) = numI bs * 256 + x := by simp [numI]
theorem bigI_succ (k : Nat) (v : Int) : bigI (k + 1) v = bigI k (v / 256) ++ [v % 256] := by
  unfold bigI
  rw [List.range_succ, List.map_append]
  congr 1
  · apply List.map_congr_left
    intro j hj
    have hj' := List.mem_range.1 hj
    have e : 8 * (k + 1 - 1 - j) = 8 + 8 * (k - 1 - j) := by omega
    rw [e, Int.pow_add, Int.ediv_ediv_of_nonneg (by decide)]
    rfl
  · simp
theorem numI_back (k : Nat) : ∀ v : Int, 0 ≤ v → v < 256 ^ k → numI (bigI k v) = v := by
  induction k with
  | zero => intro v h0 h1; rw [Int.pow_zero] at h1; have : v = 0 := by omega
            subst this; rfl
  | succ k ih =>
    intro v h0 h1
    have e : (256 : Int) ^ (k + 1) = 256 ^ k * 256 := Int.pow_succ _ _
    rw [e] at h1
    rw [bigI_succ, numI_snoc, ih (v / 256) (by omega) (by omega)]
    omega
theorem numI_range : ∀ (n : Nat) (bs : List Int), bs.length = n → (∀ z ∈ bs, Fits8 z) → 0 ≤ numI bs ∧ numI bs < 256 ^ n ∧ bigI n (numI bs) = bs := by
  intro n
  induction n with
  | zero => intro bs h _; obtain rfl := List.length_eq_zero_iff.1 h; exact ⟨Int.le_refl _, by decide, rfl⟩
  | succ n ih =>
    intro bs h hf
    obtain ⟨cs, x, rfl⟩ : ∃ cs x, bs = cs ++ [x] := by
      exact ⟨bs.dropLast, bs.getLast (by intro e; subst e; simp at h), (List.dropLast_concat_getLast _).symm⟩
    have hx := hf x (by simp)
    unfold Fits8 at hx
    obtain ⟨i0, i1, i2⟩ := ih cs (by simpa using h) (fun z hz => hf z (by simp [hz]))
    have e : (256 : Int) ^ (n + 1) = 256 ^ n * 256 := Int.pow_succ _ _
    rw [numI_snoc]
    refine ⟨by omega, by rw [e]; omega, ?_⟩
    rw [bigI_succ]
    have e1 : (numI cs * 256 + x) / 256 = numI cs := by omega
    have e2 : (numI cs * 256 + x) % 256 = x := by omega
    rw [e1, e2, i2]

/-- A token. -/
structure Tok where
  tenant : Int
  serial : Int
  ro : Bool
  size : Int
deriving DecidableEq
def Tok.Fits (t : Tok) : Prop := (0 ≤ t.tenant ∧ t.tenant < 4294967296) ∧ (0 ≤ t.serial ∧ t.serial < 4294967296) ∧ 0 ≤ t.size ∧ t.size < 18446744073709551616
def tok0 : Tok := ⟨0, 0, false, 0⟩
theorem tok0_fits : tok0.Fits := by unfold Tok.Fits tok0; simp
def tokV (t : Tok) : Value := .agg #[.int .u32 t.tenant, .int .u32 t.serial, .bool t.ro, .int .u64 t.size]
/-- Its body. -/
def roI (b : Bool) : Int := if b then 1 else 0
def bodyI (t : Tok) : List Int := [1] ++ bigI 4 t.tenant ++ bigI 4 t.serial ++ bigI 8 t.size ++ [roI t.ro]
theorem bodyI_length (t : Tok) : (bodyI t).length = 18 := by simp [bodyI, bigI_length]
theorem bodyI_fits (t : Tok) : ∀ z ∈ bodyI t, Fits8 z := by
  intro z hz
  simp only [bodyI, List.mem_append, List.mem_cons, List.not_mem_nil, or_false] at hz
  rcases hz with (((h | h) | h) | h) | h
  · subst h; unfold Fits8; omega
  · exact bigI_fits _ _ z h
  · exact bigI_fits _ _ z h
  · exact bigI_fits _ _ z h
  · subst h; unfold Fits8 roI; split <;> omega
def tokI (b : List Int) : Tok := ⟨numI ((b.drop 1).take 4), numI ((b.drop 5).take 4), decide (b.getD 17 0 = 1), numI ((b.drop 9).take 8)⟩
theorem list18 {b : List Int} (h : b.length = 18) : ∃ A B C D E, b = [A] ++ B ++ C ++ D ++ [E] ∧ B.length = 4 ∧ C.length = 4 ∧ D.length = 8 ∧ A = b.getD 0 0 ∧ E = b.getD 17 0 ∧ (b.drop 1).take 4 = B ∧ (b.drop 5).take 4 = C ∧ (b.drop 9).take 8 = D := by
  match b, h with
  | [x0, x1, x2, x3, x4, x5, x6, x7, x8, x9, x10, x11, x12, x13, x14, x15, x16, x17], _ =>
    exact ⟨x0, [x1, x2, x3, x4], [x5, x6, x7, x8], [x9, x10, x11, x12, x13, x14, x15, x16], x17, rfl, rfl, rfl, rfl, rfl, rfl, rfl, rfl, rfl⟩
theorem parts18 {A E : Int} {B C D : List Int} (hB : B.length = 4) (hC : C.length = 4) (hD : D.length = 8) :
    tokI ([A] ++ B ++ C ++ D ++ [E]) = ⟨numI B, numI C, decide (E = 1), numI D⟩ := by
  match B, hB, C, hC, D, hD with
  | [_, _, _, _], _, [_, _, _, _], _, [_, _, _, _, _, _, _, _], _ => rfl
theorem tok_body {t : Tok} (h : t.Fits) : tokI (bodyI t) = t := by
  obtain ⟨h1, h2, h3⟩ := h
  unfold bodyI
  rw [parts18 (bigI_length _ _) (bigI_length _ _) (bigI_length _ _), numI_back 4 _ h1.1 (by have := h1.2; omega), numI_back 4 _ h2.1 (by have := h2.2; omega), numI_back 8 _ h3.1 (by have := h3.2; omega)]
  obtain ⟨a, b, c, d⟩ := t
  cases c <;> rfl
theorem body_tok {b : List Int} (h : b.length = 18) (hf : ∀ z ∈ b, Fits8 z) (h0 : b.getD 0 0 = 1) (h1 : b.getD 17 0 ≤ 1) : bodyI (tokI b) = b := by
  obtain ⟨A, B, C, D, E, hb, hB, hC, hD, hA, hE, e1, e2, e3⟩ := list18 h
  have f : ∀ z, z ∈ B ∨ z ∈ C ∨ z ∈ D ∨ z = E → Fits8 z := fun z hz => hf z (by
    rw [hb]; simp only [List.mem_append, List.mem_cons, List.not_mem_nil, or_false]
    rcases hz with hz | hz | hz | hz <;> simp [hz])
  have hE' := f E (by simp)
  unfold Fits8 at hE'
  rw [h0] at hA
  unfold bodyI tokI
  dsimp only
  rw [e1, e2, e3, (numI_range 4 B hB (fun z hz => f z (by simp [hz]))).2.2, (numI_range 4 C hC (fun z hz => f z (by simp [hz]))).2.2, (numI_range 8 D hD (fun z hz => f z (by simp [hz]))).2.2, ← hE]
  have e : roI (decide (E = 1)) = E := by
    unfold roI
    by_cases h : E = 1
    · simp [h]
    · rw [if_neg (by simp [h])]; omega
  rw [e, hb, hA]
theorem tokI_fits {b : List Int} (h : b.length = 18) (hf : ∀ z ∈ b, Fits8 z) : (tokI b).Fits := by
  obtain ⟨A, B, C, D, E, hb, hB, hC, hD, hA, hE, e1, e2, e3⟩ := list18 h
  have f : ∀ z, z ∈ B ∨ z ∈ C ∨ z ∈ D → Fits8 z := fun z hz => hf z (by
    rw [hb]; simp only [List.mem_append, List.mem_cons, List.not_mem_nil, or_false]
    rcases hz with hz | hz | hz <;> simp [hz])
  have r1 := numI_range 4 B hB (fun z hz => f z (by simp [hz]))
  have r2 := numI_range 4 C hC (fun z hz => f z (by simp [hz]))
  have r3 := numI_range 8 D hD (fun z hz => f z (by simp [hz]))
  unfold Tok.Fits tokI
  dsimp only
  rw [e1, e2, e3]
  exact ⟨⟨r1.1, r1.2.1⟩, ⟨r2.1, r2.2.1⟩, r3.1, r3.2.1⟩

/-- Issue's text. -/
def issueB (key : List Int) (t : Tok) : List Int := bodyI t ++ ofI key (bodyI t)
def issueI (key : List Int) (t : Tok) : List Int := wrI (issueB key t)
theorem issueB_length (key : List Int) (t : Tok) : (issueB key t).length = 50 := by simp [issueB, bodyI_length, ofI_length]
theorem issueB_fits (key : List Int) (t : Tok) : ∀ z ∈ issueB key t, Fits8 z := by
  intro z hz
  rcases List.mem_append.1 hz with h | h
  · exact bodyI_fits t z h
  · exact sumI_fits _ z h
theorem issueI_length (key : List Int) (t : Tok) : (issueI key t).length = 80 := by rw [issueI, wrI_length, issueB_length]; rfl
/-- A text that says some token. -/
def Good (cs : List Int) : Prop := Reads cs ∧ (readI cs).length = 50 ∧ (readI cs).getD 0 0 = 1 ∧ (readI cs).getD 17 0 ≤ 1
instance (cs : List Int) : Decidable (Good cs) := by unfold Good; exact inferInstance
def lookB (cs : List Int) : List Int := (readI cs).take 18
def lookG (cs : List Int) : List Int := (readI cs).drop 18
def lookI (cs : List Int) : Tok := if Good cs then tokI (lookB cs) else tok0
def lookE (cs : List Int) : Int := if Good cs then 0 else 50
theorem readI_fits (cs : List Int) : ∀ z ∈ readI cs, Fits8 z := fun z hz => readI_fit cs z hz
theorem good_body {cs : List Int} (h : Good cs) : (lookB cs).length = 18 ∧ (lookG cs).length = 32 ∧ (∀ z ∈ lookB cs, Fits8 z) ∧ bodyI (tokI (lookB cs)) = lookB cs := by
  obtain ⟨h1, h2, h3, h4⟩ := h
  have l : (lookB cs).length = 18 := by unfold lookB; rw [List.length_take, h2]; rfl
  have f : ∀ z ∈ lookB cs, Fits8 z := fun z hz => readI_fits cs z (List.mem_of_mem_take hz)
  have g : ∀ i, i < 18 → (lookB cs).getD i 0 = (readI cs).getD i 0 := fun i hi => by unfold lookB; simp [List.getD, hi]
  exact ⟨l, by unfold lookG; rw [List.length_drop, h2], f, body_tok l f (by rw [g 0 (by omega)]; exact h3) (by rw [g 17 (by omega)]; exact h4)⟩
/-- What Issue makes is a text that says the token, and has its tag. -/
theorem issue_good (key : List Int) {t : Tok} (h : t.Fits) : Good (issueI key t) ∧ lookB (issueI key t) = bodyI t ∧ lookG (issueI key t) = ofI key (bodyI t) ∧ lookI (issueI key t) = t := by
  have f : Fit 8 (issueB key t) := fun z hz => issueB_fits key t z hz
  obtain ⟨r1, r2, r3⟩ := wr_reads f
  have e1 : lookB (issueI key t) = bodyI t := by unfold lookB issueI; rw [r2, issueB, List.take_left' (bodyI_length t)]
  have e2 : lookG (issueI key t) = ofI key (bodyI t) := by unfold lookG issueI; rw [r2, issueB, List.drop_left' (bodyI_length t)]
  have g : ∀ i, i < 18 → (readI (issueI key t)).getD i 0 = (bodyI t).getD i 0 := fun i hi => by
    unfold issueI; rw [r2, issueB]
    simp only [List.getD]
    rw [List.getElem?_append_left (by rw [bodyI_length]; exact hi)]
  have gd : Good (issueI key t) := by
    refine ⟨r1, by unfold issueI; rw [r2, issueB_length], ?_, ?_⟩
    · rw [g 0 (by omega)]; simp [bodyI]
    · rw [g 17 (by omega)]
      have : (bodyI t).getD 17 0 = roI t.ro := by
        unfold bodyI
        simp only [List.getD]
        rw [List.getElem?_append_right (by simp [bigI_length])]
        simp [bigI_length]
      rw [this]; unfold roI; split <;> omega
  exact ⟨gd, e1, e2, by unfold lookI; rw [if_pos gd, e1, tok_body h]⟩
/-- A text is what Issue makes of the token that it says just where it has that key's tag. -/
theorem issue_iff {cs : List Int} (h : Good cs) (key : List Int) : issueI key (tokI (lookB cs)) = cs ↔ ofI key (lookB cs) = lookG cs := by
  obtain ⟨b1, b2, b3, b4⟩ := good_body h
  have hr : readI cs = (rdI cs).out := by unfold readI; rw [if_pos h.1]
  have hw : wrI (readI cs) = cs := by rw [hr]; exact reads_wr h.1
  have hcat : lookB cs ++ lookG cs = readI cs := List.take_append_drop 18 _
  constructor
  · intro e
    have f : Fit 8 (issueB key (tokI (lookB cs))) := fun z hz => issueB_fits _ _ z hz
    have e2 := (wr_reads f).2.1
    have e3 : readI cs = issueB key (tokI (lookB cs)) := by rw [← e2]; exact congrArg readI e.symm
    unfold lookG
    rw [e3, issueB, List.drop_left' (bodyI_length _), b4]
  · intro e
    unfold issueI issueB
    rw [b4, e, hcat, hw]

/-- A tenant. -/
structure Ten where
  id : Int
  key : List Int
  quota : Int
  size : Int
  gone : List Int
def checkT (o : Option Ten) (cs : List Int) : Tok × Int :=
  match o with
  | none => (tok0, 51)
  | some t =>
    if ofI t.key (lookB cs) ≠ lookG cs then (tok0, 52)
    else if (lookI cs).serial ∈ t.gone then (tok0, 53)
    else if (lookI cs).size = 0 ∨ t.size < (lookI cs).size then (tok0, 54)
    else (lookI cs, 0)
def findT (ts : List Ten) (id : Int) : Option Ten := ts.find? fun t => decide (t.id = id)
def checkI (ts : List Ten) (cs : List Int) : Tok × Int :=
  if Good cs then checkT (findT ts (lookI cs).tenant) cs else (tok0, 50)
/-- A table can be made of these. -/
def TabOk (ts : List Ten) : Prop := (∀ t ∈ ts, t.key ≠ []) ∧ ts.Pairwise (fun a b => a.id ≠ b.id)
end Go.Proofs.YtpliokkmiijieaaDoor
