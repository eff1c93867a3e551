/- Quotas by their names, rising; who has used how much. -/
import Derived.WalkKit
import Derived.WalkArith
namespace Go.Proofs.Ytkhldjpghjmgfaa
open Go.RowKit
set_option linter.unusedVariables false
set_option maxRecDepth 4000

def FitsW (x : Int) : Prop := 0 ≤ x ∧ x < 4294967296
def FitsQ (x : Int) : Prop := 0 ≤ x ∧ x < 18446744073709551616
/-- Quotas: a name and its quota, names rising. -/
abbrev Qs := List (Int × Int)
def putQ : Qs → Int → Int → Qs
  | [], i, q => [(i, q)]
  | (j, r) :: t, i, q => if j < i then (j, r) :: putQ t i q else if j = i then (i, q) :: t else (i, q) :: (j, r) :: t
def getQ : Qs → Int → Option Int
  | [], _ => none
  | (j, r) :: t, i => if j = i then some r else getQ t i
def Rise (Q : Qs) : Prop := Q.Pairwise (fun a b => a.1 < b.1)
def QF (Q : Qs) : Prop := ∀ x ∈ Q, FitsW x.1 ∧ FitsQ x.2
theorem mem_putQ {Q : Qs} {i q : Int} {x : Int × Int} (h : x ∈ putQ Q i q) : x = (i, q) ∨ x ∈ Q := by
  induction Q with
  | nil => simp [putQ] at h; exact .inl h
  | cons y t ih =>
    obtain ⟨j, r⟩ := y
    unfold putQ at h
    split at h
    · rcases List.mem_cons.1 h with rfl | h
      · exact .inr (by simp)
      · rcases ih h with h | h
        · exact .inl h
        · exact .inr (by simp [h])
    · split at h
      · rcases List.mem_cons.1 h with rfl | h
        · exact .inl rfl
        · exact .inr (by simp [h])
      · rcases List.mem_cons.1 h with rfl | h
        · exact .inl rfl
        · exact .inr h
theorem Rise.put {Q : Qs} (h : Rise Q) (i q : Int) : Rise (putQ Q i q) := by
  induction Q with
  | nil => simp [putQ, Rise]
  | cons y t ih =>
    obtain ⟨j, r⟩ := y
    have h1 := (List.pairwise_cons.1 h).1
    have h2 : Rise t := (List.pairwise_cons.1 h).2
    unfold putQ
    split
    · rename_i hj
      refine List.pairwise_cons.2 ⟨fun x hx => ?_, ih h2⟩
      rcases mem_putQ hx with rfl | hx
      · exact hj
      · exact h1 x hx
    · split
      · rename_i _ he
        refine List.pairwise_cons.2 ⟨fun x hx => ?_, h2⟩
        have := h1 x hx
        simp at this ⊢; omega
      · rename_i a b
        refine List.pairwise_cons.2 ⟨fun x hx => ?_, h⟩
        rcases List.mem_cons.1 hx with rfl | hx
        · simp; omega
        · have := h1 x hx
          simp at this ⊢; omega
theorem QF.put {Q : Qs} (h : QF Q) {i q : Int} (hi : FitsW i) (hq : FitsQ q) : QF (putQ Q i q) := by
  intro x hx
  rcases mem_putQ hx with rfl | hx
  · exact ⟨hi, hq⟩
  · exact h x hx
theorem get_mem {Q : Qs} {i q : Int} (h : getQ Q i = some q) : (i, q) ∈ Q := by
  induction Q with
  | nil => cases h
  | cons y t ih =>
    obtain ⟨j, r⟩ := y
    unfold getQ at h
    split at h
    · rename_i he; cases h; subst he; simp
    · simp [ih h]
theorem mem_get {Q : Qs} (hr : Rise Q) {i q : Int} (h : (i, q) ∈ Q) : getQ Q i = some q := by
  induction Q with
  | nil => cases h
  | cons y t ih =>
    obtain ⟨j, r⟩ := y
    unfold getQ
    rcases List.mem_cons.1 h with he | h
    · cases he; simp
    · have := (List.pairwise_cons.1 hr).1 _ h
      simp at this
      rw [if_neg (by omega)]
      exact ih (List.pairwise_cons.1 hr).2 h
theorem get_none {Q : Qs} {i : Int} (h : getQ Q i = none) : ∀ x ∈ Q, x.1 ≠ i := by
  induction Q with
  | nil => intro x hx; cases hx
  | cons y t ih =>
    obtain ⟨j, r⟩ := y
    unfold getQ at h
    split at h
    · cases h
    · intro x hx
      rcases List.mem_cons.1 hx with rfl | hx
      · assumption
      · exact ih h x hx
theorem get_rise {Q : Qs} {i j : Int} {r : Int} (h : Rise ((j, r) :: Q)) (hi : i < j) : getQ Q i = none := by
  cases hg : getQ Q i with
  | none => rfl
  | some q =>
    have := (List.pairwise_cons.1 h).1 _ (get_mem hg)
    simp at this; omega
theorem get_put {Q : Qs} (h : Rise Q) (i q k : Int) : getQ (putQ Q i q) k = if k = i then some q else getQ Q k := by
  induction Q with
  | nil => simp [putQ, getQ, eq_comm]
  | cons y t ih =>
    obtain ⟨j, r⟩ := y
    have h2 : Rise t := (List.pairwise_cons.1 h).2
    unfold putQ
    split
    · rename_i hj
      show (if j = k then some r else getQ (putQ t i q) k) = _
      rw [ih h2]
      show _ = if k = i then some q else if j = k then some r else getQ t k
      by_cases hk : j = k
      · subst hk; rw [if_pos rfl, if_neg (by omega), if_pos rfl]
      · rw [if_neg hk, if_neg hk]
    · split
      · rename_i he
        subst he
        show (if j = k then some q else getQ t k) = if k = j then some q else if j = k then some r else getQ t k
        by_cases hk : j = k
        · rw [if_pos hk, if_pos hk.symm]
        · rw [if_neg hk, if_neg (fun e => hk e.symm), if_neg hk]
      · show (if i = k then some q else if j = k then some r else getQ t k) = if k = i then some q else if j = k then some r else getQ t k
        simp [eq_comm]
theorem put_length {Q : Qs} (h : Rise Q) (i q : Int) : (putQ Q i q).length = if (getQ Q i).isSome then Q.length else Q.length + 1 := by
  induction Q with
  | nil => simp [putQ, getQ]
  | cons y t ih =>
    obtain ⟨j, r⟩ := y
    have h2 : Rise t := (List.pairwise_cons.1 h).2
    unfold putQ
    split
    · rename_i hj
      have e : getQ ((j, r) :: t) i = getQ t i := by show (if j = i then some r else getQ t i) = _; rw [if_neg (by omega)]
      rw [List.length_cons, ih h2, e, List.length_cons]
      split <;> rfl
    · split
      · rename_i he
        subst he
        simp [getQ]
      · rename_i a b
        have e : getQ ((j, r) :: t) i = none := by
          show (if j = i then some r else getQ t i) = _; rw [if_neg b]; exact get_rise h (by omega)
        rw [e]; simp
/-- A tenant as it lies in memory. -/
structure Tn where
  id : Int
  ka : Option Addr
  kn : Nat
  kc : Nat
  quota : Int
  size : Int
  ga : Option Addr
  gn : Nat
  gc : Nat
def Tn.Fits (t : Tn) : Prop := FitsW t.id ∧ FitsQ t.quota ∧ FitsQ t.size
def tC (t : Tn) : List Value := [.int .u32 t.id, .slice t.ka t.kn t.kc, .int .u64 t.quota, .int .u64 t.size, .slice t.ga t.gn t.gc]
theorem tC_length (t : Tn) : (tC t).length = 5 := rfl
theorem tC_one (t : Tn) : ∀ v ∈ tC t, v.oneCell' = true := by
  intro v hv
  simp only [tC, List.mem_cons, List.not_mem_nil, or_false] at hv
  rcases hv with rfl | rfl | rfl | rfl | rfl <;> rfl
def quoS (ts : List Tn) : Qs := ts.foldl (fun Q t => putQ Q t.id t.quota) []
theorem quo_next {ts : List Tn} {k : Nat} {t : Tn} (h : ts[k]? = some t) : quoS (ts.take (k + 1)) = putQ (quoS (ts.take k)) t.id t.quota := by
  have e : ts.take (k + 1) = ts.take k ++ [t] := by rw [List.take_add_one, h]; rfl
  unfold quoS
  rw [e, List.foldl_append]; rfl
theorem quo_rise (ts : List Tn) : Rise (quoS ts) := by
  have : ∀ (l : List Tn) (Q : Qs), Rise Q → Rise (l.foldl (fun Q t => putQ Q t.id t.quota) Q) := by
    intro l
    induction l with
    | nil => intro Q h; exact h
    | cons t r ih => intro Q h; exact ih _ (h.put _ _)
  exact this ts [] List.Pairwise.nil
theorem quo_fits {ts : List Tn} (hf : ∀ t ∈ ts, t.Fits) : QF (quoS ts) := by
  have : ∀ (l : List Tn) (Q : Qs), (∀ t ∈ l, t.Fits) → QF Q → QF (l.foldl (fun Q t => putQ Q t.id t.quota) Q) := by
    intro l
    induction l with
    | nil => intro Q _ h; exact h
    | cons t r ih => intro Q hl h; exact ih _ (fun x hx => hl x (by simp [hx])) (h.put (hl t (by simp)).1 (hl t (by simp)).2.1)
  exact this ts [] hf (fun x hx => by cases hx)
theorem quo_le (ts : List Tn) : (quoS ts).length ≤ ts.length := by
  have : ∀ (l : List Tn) (Q : Qs), Rise Q → (l.foldl (fun Q t => putQ Q t.id t.quota) Q).length ≤ Q.length + l.length := by
    intro l
    induction l with
    | nil => intro Q h; simp
    | cons t r ih =>
      intro Q h
      have h1 := ih _ (h.put t.id t.quota)
      have h2 := put_length h t.id t.quota
      simp only [List.foldl_cons, List.length_cons]
      split at h2 <;> omega
  have := this ts [] List.Pairwise.nil
  unfold quoS
  rw [List.length_nil, Nat.zero_add] at this
  exact this
/-- A tenant's quota: that of the last one of its name; 0: there is none. -/
def quoI (Q : Qs) (i : Int) : Int := (getQ Q i).getD 0
theorem quoI_fits {Q : Qs} (h : QF Q) (i : Int) : FitsQ (quoI Q i) := by
  unfold quoI
  cases hg : getQ Q i with
  | none => exact ⟨by decide, by decide⟩
  | some q => exact (h _ (get_mem hg)).2
/-- What everyone has used: never more than the quota. -/
def Within (Q : Qs) (u : Int → Int) : Prop := ∀ i, 0 ≤ u i ∧ u i ≤ quoI Q i
def upd (u : Int → Int) (i v : Int) : Int → Int := fun k => if k = i then v else u k
theorem upd_same (u : Int → Int) (i v : Int) : upd u i v i = v := by simp [upd]
theorem upd_other (u : Int → Int) {i k : Int} (v : Int) (h : k ≠ i) : upd u i v k = u k := by simp [upd, h]
/-- A call: (give?, tenant, number). -/
abbrev Opl := Bool × Int × Int
def okL (Q : Qs) (u : Int → Int) (o : Opl) : Bool := if o.1 then decide (o.2.2 ≤ u o.2.1) else decide (o.2.2 ≤ quoI Q o.2.1 - u o.2.1)
def doL (Q : Qs) (u : Int → Int) (o : Opl) : Int → Int := if okL Q u o then upd u o.2.1 (if o.1 then u o.2.1 - o.2.2 else u o.2.1 + o.2.2) else u
theorem Within.does {Q : Qs} {u : Int → Int} (h : Within Q u) (o : Opl) (ho : 0 ≤ o.2.2) : Within Q (doL Q u o) := by
  intro i
  unfold doL
  by_cases hk : okL Q u o = true
  · rw [if_pos hk]
    by_cases hi : i = o.2.1
    · subst hi
      rw [upd_same]
      unfold okL at hk
      have := h o.2.1
      by_cases hg : o.1 = true
      · rw [if_pos hg] at hk ⊢
        have := of_decide_eq_true hk
        omega
      · rw [if_neg hg] at hk ⊢
        have := of_decide_eq_true hk
        omega
    · rw [upd_other _ _ hi]; exact h i
  · rw [if_neg hk]; exact h i
theorem does_other {Q : Qs} {u : Int → Int} (o : Opl) {i : Int} (h : i ≠ o.2.1) : doL Q u o i = u i := by
  unfold doL
  split
  · exact upd_other _ _ h
  · rfl
def OpF (o : Opl) : Prop := FitsW o.2.1 ∧ FitsQ o.2.2
def opC (o : Opl) : List Value := [.bool o.1, .int .u32 o.2.1, .int .u64 o.2.2]
end Go.Proofs.Ytkhldjpghjmgfaa
