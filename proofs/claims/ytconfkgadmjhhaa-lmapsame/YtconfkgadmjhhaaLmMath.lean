/- Places of blocks, as lists: what putting, dropping and looking up do to them. -/
namespace Go.Proofs.Ytconfkgadmjhhaa
set_option linter.unusedVariables false
set_option maxRecDepth 4000

abbrev Pr := Int × Int
/-- A block's name and its place. -/
abbrev Pl := Pr × Pr
def Fits32 (a : Int) : Prop := 0 ≤ a ∧ a < 4294967296
def FitsU (z : Int) : Prop := 0 ≤ z ∧ z < 18446744073709551616
def F64 (z : Int) : Prop := -9223372036854775808 ≤ z ∧ z < 9223372036854775808
def FitsN (x : Pr) : Prop := Fits32 x.1 ∧ FitsU x.2
def FitsS (x : Pr) : Prop := F64 x.1 ∧ F64 x.2
def FitsP (p : Pl) : Prop := FitsN p.1 ∧ FitsS p.2

def ltP (x y : Pr) : Bool := decide (x.1 < y.1 ∨ (x.1 = y.1 ∧ x.2 < y.2))
theorem ltP_iff (x y : Pr) : ltP x y = true ↔ (x.1 < y.1 ∨ (x.1 = y.1 ∧ x.2 < y.2)) := by unfold ltP; simp
theorem ltP_not (x y : Pr) : ltP x y = false ↔ ¬ (x.1 < y.1 ∨ (x.1 = y.1 ∧ x.2 < y.2)) := by unfold ltP; simp
theorem pr_ne {x y : Pr} : x ≠ y ↔ (x.1 ≠ y.1 ∨ x.2 ≠ y.2) := by
  obtain ⟨a, b⟩ := x
  obtain ⟨c, d⟩ := y
  simp only [ne_eq, Prod.mk.injEq]
  omega
theorem pr_eq {x y : Pr} : x = y ↔ (x.1 = y.1 ∧ x.2 = y.2) := by
  obtain ⟨a, b⟩ := x
  obtain ⟨c, d⟩ := y
  simp
theorem ltP_irrefl (x : Pr) : ltP x x = false := by rw [ltP_not]; omega
theorem ltP_trans {x y z : Pr} (h : ltP x y = true) (k : ltP y z = true) : ltP x z = true := by rw [ltP_iff] at *; omega
theorem ltP_asymm {x y : Pr} (h : ltP x y = true) : ltP y x = false := by rw [ltP_iff] at h; rw [ltP_not]; omega
theorem ltP_ne {x y : Pr} (h : ltP x y = true) : x ≠ y := by rintro rfl; rw [ltP_irrefl] at h; cases h
theorem ltP_total {x y : Pr} (h : x ≠ y) (k : ltP x y = false) : ltP y x = true := by rw [ltP_not] at k; rw [ltP_iff]; rw [pr_ne] at h; omega
theorem ltP_anti {x y : Pr} (h : ltP x y = false) (k : ltP y x = false) : x = y := by
  by_cases e : x = y
  · exact e
  · rw [ltP_total e h] at k; cases k

/-- All places there are: rising by names, no two at one place. -/
structure Good (S : List Pl) : Prop where
  up : S.Pairwise (fun p q => ltP p.1 q.1 = true)
  apart : S.Pairwise (fun p q => p.2 ≠ q.2)
  fits : ∀ p ∈ S, FitsP p
theorem good_nil : Good [] := ⟨.nil, .nil, by simp⟩
theorem eq_of_pairwise {α β : Type} (f : α → β) : ∀ {l : List α}, l.Pairwise (fun p q => f p ≠ f q) → ∀ {p q : α}, p ∈ l → q ∈ l → f p = f q → p = q
  | [], _, _, _, hp, _, _ => by simp at hp
  | a :: r, h, p, q, hp, hq, e => by
    obtain ⟨h1, h2⟩ := List.pairwise_cons.1 h
    rcases List.mem_cons.1 hp with e1 | hp1
    · rcases List.mem_cons.1 hq with e2 | hq1
      · rw [e1, e2]
      · exact absurd (e1 ▸ e) (h1 q hq1)
    · rcases List.mem_cons.1 hq with e2 | hq1
      · exact absurd (e2 ▸ e.symm) (h1 p hp1)
      · exact eq_of_pairwise f h2 hp1 hq1 e
theorem Good.names {S : List Pl} (h : Good S) : S.Pairwise (fun p q => p.1 ≠ q.1) := h.up.imp (fun h => ltP_ne h)
theorem Good.one_name {S : List Pl} (h : Good S) {p q : Pl} (hp : p ∈ S) (hq : q ∈ S) (e : p.1 = q.1) : p = q := eq_of_pairwise (fun p : Pl => p.1) h.names hp hq e
theorem Good.one_spot {S : List Pl} (h : Good S) {p q : Pl} (hp : p ∈ S) (hq : q ∈ S) (e : p.2 = q.2) : p = q := eq_of_pairwise (fun p : Pl => p.2) h.apart hp hq e
/-- Lists that rise and have the same members are one. -/
theorem eq_of_mem {α : Type} {f : α → Pr} : ∀ {l l' : List α}, l.Pairwise (fun p q => ltP (f p) (f q) = true) → l'.Pairwise (fun p q => ltP (f p) (f q) = true) → (∀ p, p ∈ l ↔ p ∈ l') → l = l'
  | [], [], _, _, _ => rfl
  | [], a :: r, _, _, h => by have := (h a).2 (by simp); simp at this
  | a :: r, [], _, _, h => by have := (h a).1 (by simp); simp at this
  | a :: r, a' :: r', h1, h2, h => by
    obtain ⟨k1, k2⟩ := List.pairwise_cons.1 h1
    obtain ⟨k1', k2'⟩ := List.pairwise_cons.1 h2
    have e : a = a' := by
      rcases List.mem_cons.1 ((h a).1 (by simp)) with e | hm
      · exact e
      · rcases List.mem_cons.1 ((h a').2 (by simp)) with e | hm'
        · exact e.symm
        · have := ltP_asymm (k1' a hm); rw [k1 a' hm'] at this; cases this
    subst e
    have : r = r' := eq_of_mem k2 k2' fun p => by
      have hp := h p
      simp only [List.mem_cons] at hp
      constructor
      · intro hm
        rcases hp.1 (.inr hm) with rfl | h'
        · exact absurd rfl (ltP_ne (k1 p hm))
        · exact h'
      · intro hm
        rcases hp.2 (.inr hm) with rfl | h'
        · exact absurd rfl (ltP_ne (k1' p hm))
        · exact h'
    rw [this]

/-! Where a block is; what is at a place. -/
def getS (S : List Pl) (n : Pr) : Option Pr := (S.find? (fun p => p.1 == n)).map (·.2)
def atS (S : List Pl) (s : Pr) : Option Pr := (S.find? (fun p => p.2 == s)).map (·.1)
theorem getS_some {S : List Pl} (h : Good S) {n s : Pr} : getS S n = some s ↔ (n, s) ∈ S := by
  unfold getS
  constructor
  · intro e
    obtain ⟨p, hp, rfl⟩ := Option.map_eq_some_iff.1 e
    have h1 := List.find?_some hp
    have h2 := List.mem_of_find?_eq_some hp
    have : p.1 = n := by simpa using h1
    rw [← this]; exact h2
  · intro hm
    obtain ⟨p, hp⟩ : ∃ p, S.find? (fun p => p.1 == n) = some p := by
      rw [← Option.isSome_iff_exists, List.find?_isSome]
      exact ⟨_, hm, by simp⟩
    rw [hp]
    have h1 := List.find?_some hp
    have h2 := List.mem_of_find?_eq_some hp
    have h3 : p.1 = n := by simpa using h1
    rw [h.one_name h2 hm h3]
    rfl
theorem getS_none {S : List Pl} {n : Pr} : getS S n = none ↔ ∀ s, (n, s) ∉ S := by
  unfold getS
  rw [Option.map_eq_none_iff, List.find?_eq_none]
  constructor
  · intro h s hm; exact h _ hm (by simp)
  · intro h p hp e
    have : p.1 = n := by simpa using e
    exact h p.2 (by rw [← this]; exact hp)
theorem atS_some {S : List Pl} (h : Good S) {n s : Pr} : atS S s = some n ↔ (n, s) ∈ S := by
  unfold atS
  constructor
  · intro e
    obtain ⟨p, hp, rfl⟩ := Option.map_eq_some_iff.1 e
    have h1 := List.find?_some hp
    have h2 := List.mem_of_find?_eq_some hp
    have : p.2 = s := by simpa using h1
    rw [← this]; exact h2
  · intro hm
    obtain ⟨p, hp⟩ : ∃ p, S.find? (fun p => p.2 == s) = some p := by
      rw [← Option.isSome_iff_exists, List.find?_isSome]
      exact ⟨_, hm, by simp⟩
    rw [hp]
    have h1 := List.find?_some hp
    have h2 := List.mem_of_find?_eq_some hp
    have h3 : p.2 = s := by simpa using h1
    rw [h.one_spot h2 hm h3]
    rfl
theorem atS_none {S : List Pl} {s : Pr} : atS S s = none ↔ ∀ n, (n, s) ∉ S := by
  unfold atS
  rw [Option.map_eq_none_iff, List.find?_eq_none]
  constructor
  · intro h n hm; exact h _ hm (by simp)
  · intro h p hp e
    have : p.2 = s := by simpa using e
    exact h p.1 (by rw [← this]; exact hp)

/-! Dropping. -/
def dropS (S : List Pl) (n : Pr) : List Pl := S.filter (fun p => p.1 != n)
theorem mem_dropS {S : List Pl} {n : Pr} {p : Pl} : p ∈ dropS S n ↔ p ∈ S ∧ p.1 ≠ n := by unfold dropS; simp [List.mem_filter]
theorem Good.filter {S : List Pl} (h : Good S) (f : Pl → Bool) : Good (S.filter f) := ⟨h.up.filter _, h.apart.filter _, fun p hp => h.fits p (List.mem_filter.1 hp).1⟩
theorem Good.drop {S : List Pl} (h : Good S) (n : Pr) : Good (dropS S n) := h.filter _
theorem drop_none {S : List Pl} {n : Pr} (h : getS S n = none) : dropS S n = S := by
  unfold dropS
  rw [List.filter_eq_self]
  intro p hp
  have := getS_none.1 h p.2
  simp only [bne_iff_ne, ne_eq]
  intro e
  exact this (by rw [← e]; exact hp)
theorem drop_len (S : List Pl) (n : Pr) : decide ((dropS S n).length < S.length) = (getS S n).isSome := by
  cases hg : getS S n with
  | none => rw [drop_none hg]; simp
  | some s =>
    have : ∃ p ∈ S, p.1 = n := by
      unfold getS at hg
      obtain ⟨p, hp, _⟩ := Option.map_eq_some_iff.1 hg
      exact ⟨p, List.mem_of_find?_eq_some hp, by simpa using List.find?_some hp⟩
    obtain ⟨p, hp, e⟩ := this
    have : (dropS S n).length < S.length := by
      unfold dropS
      rw [List.length_filter_lt_length_iff_exists]
      exact ⟨p, hp, by simp [e]⟩
    simp [this]

/-! Putting, as the document does it: one after the other. -/
def putStep (p : Pl) (s : List Pl × Bool) (x : Pl) : List Pl × Bool :=
  (s.1 ++ ((if !s.2 && (ltP p.1 x.1 || x.1 == p.1) then [p] else []) ++ (if !(x.1 == p.1) && (x.2 != p.2) then [x] else [])), s.2 || (ltP p.1 x.1 || x.1 == p.1))
def putAll (p : Pl) (S : List Pl) : List Pl × Bool := S.foldl (putStep p) ([], false)
def putS (S : List Pl) (p : Pl) : List Pl := if (putAll p S).2 then (putAll p S).1 else (putAll p S).1 ++ [p]
def keepB (p x : Pl) : Bool := !(x.1 == p.1) && (x.2 != p.2)
def insN (p : Pl) : List Pl → List Pl
  | [] => [p]
  | q :: r => if ltP p.1 q.1 then p :: q :: r else q :: insN p r
theorem insN_perm (p : Pl) : ∀ L : List Pl, (insN p L).Perm (p :: L)
  | [] => .refl _
  | q :: r => by
    unfold insN
    split
    · exact .refl _
    · exact ((insN_perm p r).cons q).trans (List.Perm.swap p q r)
theorem insN_up (p : Pl) : ∀ L : List Pl, L.Pairwise (fun p q => ltP p.1 q.1 = true) → (∀ q ∈ L, q.1 ≠ p.1) → (insN p L).Pairwise (fun p q => ltP p.1 q.1 = true)
  | [], _, _ => by simp [insN]
  | q :: r, h, hn => by
    obtain ⟨h1, h2⟩ := List.pairwise_cons.1 h
    unfold insN
    split
    · rename_i hb
      refine List.pairwise_cons.2 ⟨fun x hx => ?_, h⟩
      rcases List.mem_cons.1 hx with rfl | hx
      · exact hb
      · exact ltP_trans hb (h1 x hx)
    · rename_i hb
      have hqp : ltP q.1 p.1 = true := ltP_total (hn q (by simp)).symm (by simpa using hb)
      refine List.pairwise_cons.2 ⟨fun x hx => ?_, insN_up p r h2 (fun x hx => hn x (by simp [hx]))⟩
      rcases List.mem_cons.1 ((insN_perm p r).mem_iff.1 hx) with rfl | hx
      · exact hqp
      · exact h1 x hx
theorem put_done (p : Pl) : ∀ (S : List Pl) (o : List Pl), S.foldl (putStep p) (o, true) = (o ++ S.filter (keepB p), true)
  | [], o => by simp
  | x :: r, o => by
    rw [List.foldl_cons]
    have : putStep p (o, true) x = (o ++ (if keepB p x then [x] else []), true) := by simp [putStep, keepB]
    rw [this, put_done p r]
    by_cases h : keepB p x = true
    · simp [h]
    · simp [h]
theorem put_go (p : Pl) : ∀ (S : List Pl) (o : List Pl), S.Pairwise (fun p q => ltP p.1 q.1 = true) →
    (if (S.foldl (putStep p) (o, false)).2 then (S.foldl (putStep p) (o, false)).1 else (S.foldl (putStep p) (o, false)).1 ++ [p]) = o ++ insN p (S.filter (keepB p))
  | [], o, _ => by simp [insN]
  | x :: r, o, h => by
    obtain ⟨h1, h2⟩ := List.pairwise_cons.1 h
    rw [List.foldl_cons]
    by_cases hd : (ltP p.1 x.1 || x.1 == p.1) = true
    · have : putStep p (o, false) x = (o ++ ([p] ++ (if keepB p x then [x] else [])), true) := by simp [putStep, keepB, hd]
      rw [this, put_done p r]
      have hall : ∀ q ∈ r, ltP p.1 q.1 = true := by
        intro q hq
        have hxq := h1 q hq
        simp only [Bool.or_eq_true, beq_iff_eq] at hd
        rcases hd with hd | hd
        · exact ltP_trans hd hxq
        · rw [← hd]; exact hxq
      have hins : ∀ L : List Pl, (∀ q ∈ L, ltP p.1 q.1 = true) → insN p L = p :: L := by
        intro L hL
        cases L with
        | nil => rfl
        | cons q t => unfold insN; rw [if_pos (hL q (by simp))]
      by_cases hk : keepB p x = true
      · have hx : ltP p.1 x.1 = true := by
          simp only [Bool.or_eq_true, beq_iff_eq] at hd
          rcases hd with hd | hd
          · exact hd
          · simp [keepB, hd] at hk
        rw [List.filter_cons_of_pos hk, hins _ (by
          intro q hq
          rcases List.mem_cons.1 hq with rfl | hq
          · exact hx
          · exact hall q (List.mem_filter.1 hq).1)]
        simp [hk]
      · rw [List.filter_cons_of_neg hk, hins _ (fun q hq => hall q (List.mem_filter.1 hq).1)]
        simp [hk]
    · have hd' : (ltP p.1 x.1 || x.1 == p.1) = false := by simpa using hd
      have : putStep p (o, false) x = (o ++ (if keepB p x then [x] else []), false) := by simp [putStep, keepB, hd']
      rw [this, put_go p r _ h2]
      have hnl : ltP p.1 x.1 = false := (Bool.or_eq_false_iff.1 hd').1
      by_cases hk : keepB p x = true
      · rw [List.filter_cons_of_pos hk]
        simp [hk, insN, hnl]
      · rw [List.filter_cons_of_neg hk]
        simp [hk]
theorem putS_eq {S : List Pl} (h : Good S) (p : Pl) : putS S p = insN p (S.filter (keepB p)) := by
  have := put_go p S [] h.up
  unfold putS putAll
  simpa using this
theorem mem_putS {S : List Pl} (h : Good S) {p q : Pl} : q ∈ putS S p ↔ q = p ∨ (q ∈ S ∧ q.1 ≠ p.1 ∧ q.2 ≠ p.2) := by
  rw [putS_eq h, (insN_perm p _).mem_iff, List.mem_cons, List.mem_filter]
  simp [keepB]
theorem Good.put {S : List Pl} (h : Good S) {p : Pl} (hp : FitsP p) : Good (putS S p) := by
  have hf := h.filter (keepB p)
  refine ⟨?_, ?_, fun q hq => ?_⟩
  · rw [putS_eq h]
    refine insN_up p _ hf.up (fun q hq => ?_)
    have := (List.mem_filter.1 hq).2
    simp [keepB] at this
    exact this.1
  · rw [putS_eq h]
    refine ((insN_perm p _).pairwise_iff (fun {a b} (hn : a.2 ≠ b.2) => hn.symm)).2 (List.pairwise_cons.2 ⟨fun q hq => ?_, hf.apart⟩)
    have := (List.mem_filter.1 hq).2
    simp [keepB] at this
    exact fun e => this.2 e.symm
  · rcases (mem_putS h).1 hq with rfl | h'
    · exact hp
    · exact h.fits q h'.1
theorem putS_len {S : List Pl} (h : Good S) (p : Pl) : (putS S p).length ≤ S.length + 1 := by
  rw [putS_eq h, (insN_perm p _).length_eq, List.length_cons]
  exact Nat.succ_le_succ (List.length_filter_le _ _)
theorem dropS_len (S : List Pl) (n : Pr) : (dropS S n).length ≤ S.length := List.length_filter_le _ _
theorem get_put {S : List Pl} (h : Good S) {p : Pl} (hp : FitsP p) : getS (putS S p) p.1 = some p.2 := (getS_some (h.put hp)).2 ((mem_putS h).2 (.inl rfl))
theorem at_put {S : List Pl} (h : Good S) {p : Pl} (hp : FitsP p) : atS (putS S p) p.2 = some p.1 := (atS_some (h.put hp)).2 ((mem_putS h).2 (.inl rfl))

/-! How many blocks a tenant has; a zone's blocks. -/
def cntS (S : List Pl) (t : Int) : Nat := (S.filter (fun p => p.1.1 == t)).length
theorem cntS_le (S : List Pl) (t : Int) : cntS S t ≤ S.length := List.length_filter_le _ _
def IsIn (S : List Pl) (z : Int) (L : List Pl) : Prop := L.Pairwise (fun p q => ltP p.2 q.2 = true) ∧ ∀ p, p ∈ L ↔ p ∈ S ∧ p.2.1 = z
theorem IsIn.one {S : List Pl} {z : Int} {L L' : List Pl} (h : IsIn S z L) (h' : IsIn S z L') : L = L' := eq_of_mem (f := fun p : Pl => p.2) h.1 h'.1 (fun p => by rw [h.2, h'.2])
/-- What was collected of a list in which no two are one. -/
theorem perm_of_mem {α : Type} [DecidableEq α] {l l' : List α} (h : l.Nodup) (h' : l'.Nodup) (hm : ∀ x, x ∈ l ↔ x ∈ l') : l.Perm l' := by
  rw [List.perm_iff_count]
  intro x
  rw [h.count, h'.count]
  by_cases hx : x ∈ l
  · rw [if_pos hx, if_pos ((hm x).1 hx)]
  · rw [if_neg hx, if_neg (fun h => hx ((hm x).2 h))]
theorem IsIn.len {S : List Pl} (g : Good S) {z : Int} {L : List Pl} (h : IsIn S z L) : L.length = (S.filter (fun p => p.2.1 == z)).length := by
  refine (perm_of_mem ?_ ?_ (fun p => ?_)).length_eq
  · exact h.1.imp (fun {a b} h (e : a = b) => ltP_ne h (by rw [e]))
  · exact (g.apart.filter _).imp (fun {a b} h (e : a = b) => h (by rw [e]))
  · rw [h.2, List.mem_filter]; simp
end Go.Proofs.Ytconfkgadmjhhaa
