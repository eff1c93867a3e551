/- Lists of tenants as rows of cells: parts, appending, another order; what a table of them says does not hang on the order. -/
import Derived.Test.YtpliokkmiijieaaDoorPLaw
import Derived.Deep.Slices
namespace Go.Proofs.YtpliokkmiijieaaDoor
open Go.RowKit
set_option linter.unusedVariables false
set_option maxRecDepth 4000

/-- Five cells each, tenants one behind the other. -/
def TsC (lo : Nat) (w : World) (C : List Value) (ts : List Ten) : Prop :=
  C.length = ts.length * 5 ∧ (∀ v ∈ C, v.oneCell' = true) ∧ ∀ r t, ts[r]? = some t → TenIn lo w ((C.drop (r * 5)).take 5) t
theorem TsC.keeps {lo : Nat} {w w' : World} {C : List Value} {ts : List Ten} (h : TsC lo w C ts) (hk : Keeps lo w w') : TsC lo w' C ts := ⟨h.1, h.2.1, fun r t ht => (h.2.2 r t ht).keeps hk⟩
theorem TsC.below {lo : Nat} {w w' : World} {C : List Value} {ts : List Ten} (h : TsC lo w C ts) (hb : Below w.heap.size w w') : TsC lo w' C ts := h.keeps (Keeps.of_below hb)
theorem ten_len {lo : Nat} {w : World} {L : List Value} {t : Ten} (h : TenIn lo w L t) : L.length = 5 ∧ ∀ v ∈ L, v.oneCell' = true := by
  obtain ⟨ka, kn, kc, ga, gn, gc, rfl, _⟩ := h
  exact ⟨rfl, tenL_one _ _ _ _ _ _ _⟩
theorem TsC.append {lo : Nat} {w : World} {C D : List Value} {ts us : List Ten} (h : TsC lo w C ts) (k : TsC lo w D us) : TsC lo w (C ++ D) (ts ++ us) := by
  obtain ⟨h1, h2, h3⟩ := h
  obtain ⟨k1, k2, k3⟩ := k
  refine ⟨by simp [h1, k1]; omega, fun v hv => (List.mem_append.1 hv).elim (h2 v) (k2 v), fun r t ht => ?_⟩
  by_cases hr : r < ts.length
  · rw [List.getElem?_append_left hr] at ht
    have e : ((C ++ D).drop (r * 5)).take 5 = (C.drop (r * 5)).take 5 := by
      rw [List.drop_append_of_le_length (by rw [h1]; omega), List.take_append_of_le_length (by rw [List.length_drop, h1]; omega)]
    rw [e]
    exact h3 r t ht
  · have hr' : ts.length ≤ r := by omega
    rw [List.getElem?_append_right hr'] at ht
    have e : (C ++ D).drop (r * 5) = D.drop ((r - ts.length) * 5) := by
      rw [List.drop_append, List.drop_eq_nil_of_le (by rw [h1]; omega), List.nil_append, h1]
      congr 1
      omega
    rw [e]
    exact k3 _ t ht
theorem TsC.drop {lo : Nat} {w : World} {C : List Value} {ts : List Ten} (h : TsC lo w C ts) (n : Nat) : TsC lo w (C.drop (n * 5)) (ts.drop n) := by
  obtain ⟨h1, h2, h3⟩ := h
  refine ⟨by rw [List.length_drop, List.length_drop, h1]; omega, fun v hv => h2 v (List.mem_of_mem_drop hv), fun r t ht => ?_⟩
  rw [List.getElem?_drop] at ht
  have := h3 _ t ht
  rw [List.drop_drop]
  have e : n * 5 + r * 5 = (n + r) * 5 := by omega
  rw [e]
  exact this
theorem TsC.take {lo : Nat} {w : World} {C : List Value} {ts : List Ten} (h : TsC lo w C ts) (n : Nat) : TsC lo w (C.take (n * 5)) (ts.take n) := by
  obtain ⟨h1, h2, h3⟩ := h
  refine ⟨by rw [List.length_take, List.length_take, h1]; omega, fun v hv => h2 v (List.mem_of_mem_take hv), fun r t ht => ?_⟩
  have hr : r < n := by
    have := (List.getElem?_eq_some_iff.1 ht).1
    simp at this
    omega
  rw [List.getElem?_take_of_lt hr] at ht
  have e : ((C.take (n * 5)).drop (r * 5)).take 5 = (C.drop (r * 5)).take 5 := by
    rw [List.drop_take, List.take_take]
    congr 1
    omega
  rw [e]
  exact h3 r t ht
theorem TsC.one {lo : Nat} {w : World} {L : List Value} {t : Ten} (h : TenIn lo w L t) : TsC lo w L [t] := by
  obtain ⟨h1, h2⟩ := ten_len h
  refine ⟨by simpa using h1, h2, fun r u hu => ?_⟩
  cases r with
  | zero =>
    cases hu
    rw [Nat.zero_mul, List.drop_zero, List.take_of_length_le (by omega)]
    exact h
  | succ r => simp at hu
theorem TsC.nil (lo : Nat) (w : World) : TsC lo w [] [] := ⟨rfl, by simp, fun r t ht => by simp at ht⟩
/-- A list of tenants in the world, as its cells. -/
theorem ts_cells {lo : Nat} {w : World} {a : Option Addr} {n : Nat} {ts : List Ten} (h : TsIn lo w a n ts) : ∃ C, TsC lo w C ts ∧ (n = 0 ∨ ∃ b off, a = some ⟨b, off, none⟩ ∧ lo ≤ b ∧ ∀ j v, C[j]? = some v → w.cell? ⟨b, off + j, none⟩ = some v) := by
  obtain ⟨h1, h2⟩ := h
  rcases h2 with h2 | ⟨b, off, ha, hlo, hr⟩
  · subst h2
    obtain rfl := List.length_eq_zero_iff.1 h1
    exact ⟨[], TsC.nil lo w, .inl rfl⟩
  · suffices hs : ∀ k, k ≤ n → ∃ C, TsC lo w C (ts.take k) ∧ ∀ j v, C[j]? = some v → w.cell? ⟨b, off + j, none⟩ = some v by
      obtain ⟨C, hC, hc⟩ := hs n (Nat.le_refl _)
      rw [List.take_of_length_le (by omega)] at hC
      exact ⟨C, hC, .inr ⟨b, off, ha, hlo, hc⟩⟩
    intro k
    induction k with
    | zero => intro _; exact ⟨[], by simpa using TsC.nil lo w, fun j v hv => by simp at hv⟩
    | succ k ih =>
      intro hk
      obtain ⟨C, hC, hc⟩ := ih (by omega)
      obtain ⟨t, ht⟩ : ∃ t, ts[k]? = some t := ⟨_, List.getElem?_eq_getElem (by omega)⟩
      obtain ⟨L, hT, hL⟩ := hr k t ht
      refine ⟨C ++ L, ?_, fun j v hv => ?_⟩
      · rw [take_next ht]
        exact hC.append (TsC.one hT)
      · have hCl : C.length = k * 5 := by rw [hC.1, List.length_take]; omega
        by_cases hj : j < C.length
        · rw [List.getElem?_append_left hj] at hv
          exact hc j v hv
        · rw [List.getElem?_append_right (by omega)] at hv
          have := hL _ v hv
          rw [show off + k * 5 + (j - C.length) = off + j by omega] at this
          exact this
/-- Cells of tenants that lie in the world are a list of them. -/
theorem cells_ts {w : World} {b off n : Nat} {C : List Value} {ts : List Ten} (h : TsC 0 w C ts) (hn : ts.length = n) (hc : ∀ j v, C[j]? = some v → w.cell? ⟨b, off + j, none⟩ = some v) : TsIn 0 w (some ⟨b, off, none⟩) n ts := by
  refine ⟨hn, .inr ⟨b, off, rfl, Nat.zero_le _, fun r t ht => ⟨_, h.2.2 r t ht, fun j v hv => ?_⟩⟩⟩
  have hj := (List.getElem?_eq_some_iff.1 hv).1
  have hj5 : j < 5 := by simp at hj; omega
  rw [List.getElem?_take_of_lt hj5, List.getElem?_drop] at hv
  have := hc _ v hv
  rw [show off + r * 5 + j = off + (r * 5 + j) by omega]
  exact this
theorem Tryd.zero_ten : (Tryd.prog.info? 49).map (fun i => (i.zero, i.size, i.bytes)) = some (some (.agg ten0L.toArray), 5, 72) := by kernel_rfl
theorem wpList_append_tens {ops : Array Oper} {rest : List Oper} {o : Oper} {a : Act} {Q : Exit → Act → World → Prop} {w : World} (hgd : o.guard = none) (s x : Operand)
    (ho : o.op = .call { callee := .builtin .append, args := #[s, x], argTypes := #[37, 37] }) (base : Nat)
    (a0 : Option Addr) (n0 c0 : Nat) (C : List Value) (hs : a.eval s = .slice a0 n0 c0) (hown : w.ownsRow base 49 5 (.slice a0 n0 c0) n0 C)
    (ad : Addr) (n1 c1 : Nat) (D : List Value) (hx : a.eval x = .slice (some ad) n1 c1) (hl : D.length = n1 * 5) (hin : ∀ j u, D[j]? = some u → w.cell? (ad.add j) = some u) (h1 : ∀ v ∈ D, v.oneCell' = true)
    (hle : n0 + n1 ≤ 1000) (hbase : base ≤ w.heap.size)
    (h : ∀ a' c' w', w'.ownsRow base 49 5 (.slice a' (n0 + n1) c') (n0 + n1) (C ++ D) → w.grownBy w' (Value.slice a0 n0 c0).ownBlock → Below base w w' → wpList Tryd.prog ops Q rest (a.put o.dst (.slice a' (n0 + n1) c')) w') :
    wpList Tryd.prog ops Q (o :: rest) a w := by
  obtain ⟨i0, hi, hz0, hz1, hz2⟩ := info_parts Tryd.zero_ten
  refine wpList_append_own w hgd s x 37 ho base 49 i0 (.agg ten0L.toArray) 5 72 Tryd.underlying37 hi hz0 hz1 hz2 rfl (by decide) _ n0 C hs hown ad n1 c1 D hx hl hin h1 (by unfold maxLen; omega) (by omega) hbase ?_
  intro v' w' hown' hgrow _
  have hb : Below base w w' := (Below.refl base w).grown hgrow hbase (fun k hk => (hown.lt k hk).1)
  obtain ⟨a', c', rfl⟩ : ∃ a' c', v' = .slice a' (n0 + n1) c' := by
    rcases hown'.2 with ⟨hv, hn⟩ | ⟨g, cap, cur, hv, _⟩
    · exact ⟨none, 0, by rw [hv, hn]⟩
    · exact ⟨_, _, hv⟩
  exact h a' c' w' hown' hgrow hb
theorem own_ts {w : World} {base : Nat} {a : Option Addr} {n c : Nat} {C : List Value} {ts : List Ten} (h : w.ownsRow base 49 5 (.slice a n c) n C) (hT : TsC 0 w C ts) : TsIn 0 w a n ts := by
  have hn : ts.length = n := by have := h.1; rw [hT.1] at this; omega
  rcases h.2 with ⟨hv, h0⟩ | ⟨g, cap, cur, hv, hb, hg, hc, hcm, hsz, htake⟩
  · exact ⟨hn, .inl h0⟩
  · cases hv
    refine cells_ts hT hn fun j v hv => ?_
    have := h.cells (g := g) rfl j v hv
    rw [Addr.add_mid] at this
    exact this

/-! ### Another order -/
theorem mem_find {ts : List Ten} (h : TabOk ts) {t : Ten} (ht : t ∈ ts) : findT ts t.id = some t := by
  obtain ⟨i, hi, rfl⟩ := List.getElem_of_mem ht
  induction ts generalizing i with
  | nil => simp at hi
  | cons x r ih =>
    have hr : TabOk r := ⟨fun y hy => h.1 y (by simp [hy]), (List.pairwise_cons.1 h.2).2⟩
    cases i with
    | zero => unfold findT; simp
    | succ i =>
      have hi' : i < r.length := by simpa using hi
      have hne : x.id ≠ r[i].id := (List.pairwise_cons.1 h.2).1 _ (List.getElem_mem hi')
      have := ih hr i hi' (List.getElem_mem hi')
      unfold findT at this ⊢
      rw [List.find?_cons]
      simp only [List.getElem_cons_succ]
      rw [decide_eq_false hne]
      exact this
theorem perm_ok {ts us : List Ten} (h : TabOk ts) (hp : us.Perm ts) : TabOk us :=
  ⟨fun t ht => h.1 t (hp.mem_iff.1 ht), (hp.pairwise_iff (fun {a b} (h : a.id ≠ b.id) => h.symm)).2 h.2⟩
theorem perm_find {ts us : List Ten} (h : TabOk ts) (hp : us.Perm ts) (id : Int) : findT us id = findT ts id := by
  cases hf : findT ts id with
  | none =>
    unfold findT at hf ⊢
    rw [List.find?_eq_none] at hf ⊢
    intro t ht
    exact hf t (hp.mem_iff.1 ht)
  | some t =>
    obtain ⟨m1, m2⟩ := find_mem hf
    have := mem_find (perm_ok h hp) (hp.mem_iff.2 m1)
    rw [m2] at this
    exact this
theorem perm_check {ts us : List Ten} (h : TabOk ts) (hp : us.Perm ts) (cs : List Int) : checkI us cs = checkI ts cs := by
  unfold checkI
  rw [perm_find h hp]
theorem turned_perm (ts : List Ten) (n : Nat) : (ts.drop n ++ ts.take n).Perm ts := by
  have := List.perm_append_comm (l₁ := ts.drop n) (l₂ := ts.take n)
  rwa [List.take_append_drop] at this
theorem newE_ok {ts : List Ten} (h : newE ts = 0) : ts.length ≤ 64 ∧ TabOk ts := by
  unfold newE at h
  split at h
  · cases h
  · split at h
    · exact ⟨by omega, by assumption⟩
    · cases h
theorem ok_newE {ts : List Ten} (h1 : ts.length ≤ 64) (h2 : TabOk ts) : newE ts = 0 := by
  unfold newE
  rw [if_neg (by omega), if_pos h2]
/-- What one tenant alone says of a text. -/
theorem check_one {ts : List Ten} {t : Ten} (h : TabOk ts) (ht : t ∈ ts) (cs : List Int) :
    (checkI [t] cs = checkI ts cs ∧ (checkI ts cs).2 ≠ 51) ∨ (checkI [t] cs = (tok0, 51) ∧ ((checkI ts cs).2 = 0 → (checkI ts cs).1.tenant ≠ t.id)) := by
  unfold checkI
  by_cases hg : Good cs
  · rw [if_pos hg, if_pos hg]
    by_cases he : t.id = (lookI cs).tenant
    · left
      have e1 : findT [t] (lookI cs).tenant = some t := by unfold findT; simp [he]
      have e2 : findT ts (lookI cs).tenant = some t := by rw [← he]; exact mem_find h ht
      rw [e1, e2]
      refine ⟨rfl, ?_⟩
      rw [check_is]
      split
      · decide
      · split
        · show (0 : Int) ≠ 51; decide
        · show refE t (lookI cs) ≠ 51
          rcases refEis t (lookI cs) with h | h | h <;> rw [h] <;> decide
    · right
      have e1 : findT [t] (lookI cs).tenant = none := by unfold findT; simp [he]
      rw [e1]
      refine ⟨rfl, fun h0 => ?_⟩
      cases hf : findT ts (lookI cs).tenant with
      | none => rw [hf] at h0; exact absurd (show (51 : Int) = 0 from h0) (by decide)
      | some u =>
        rw [hf, check_is] at h0
        rw [check_is]
        split at h0
        · exact absurd (show (52 : Int) = 0 from h0) (by decide)
        · rename_i hx
          rw [if_neg hx]
          split at h0
          · rename_i hy
            rw [if_pos hy]
            exact fun h => he h.symm
          · rename_i hy
            exact absurd h0 hy
  · left
    rw [if_neg hg, if_neg hg]
    exact ⟨rfl, by decide⟩
end Go.Proofs.YtpliokkmiijieaaDoor
