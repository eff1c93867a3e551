/- Appending to one of two rows that the call itself made: the other one stays. -/
import Derived.Test.YtpliokkmiijieaaDoorLists
import Derived.Test.YtpliokkmiijieaaDoorMKnown
import Derived.Test.YtpliokkmiijieaaDoorEqual
namespace Go.Proofs.YtpliokkmiijieaaDoor
open Go.RowKit
set_option linter.unusedVariables false
set_option maxRecDepth 4000

theorem run_append_far (w : World) (base : Nat) (ty : TypeId) (v : Value) (n : Nat) (xs : List Int) (hown : w.ownsRow base 5 1 v n (u8s xs))
    (a : Addr) (m c : Nat) (zs : List Int) (hl : zs.length = m) (hnew : ∀ j u, (u8s zs)[j]? = some u → w.cell? (a.add j) = some u) (hn : n + m ≤ 1000000) (hbase : base ≤ w.heap.size) :
    ∃ v' w', (Builtin.append_ #[22, 22] ty #[v, .slice (some a) m c]).run Tryd.prog w = .ok v' w' ∧ w'.ownsRow base 5 1 v' (n + m) (u8s (xs ++ zs)) ∧ w.grownBy w' v.ownBlock ∧
      (v'.ownBlock = v.ownBlock ∨ ∀ g, v'.ownBlock = some g → w.heap.size ≤ g) := by
  obtain ⟨i, hi, hz, hs, hb⟩ := info_parts Tryd.zero_u8
  have hcat : u8s (xs ++ zs) = u8s xs ++ u8s zs := by simp [u8s]
  have hlz : (u8s zs).length = m * 1 := by rw [u8s_length, hl]; omega
  have h1 := u8s_one zs
  have hown1 := fun base hown hbase => run_append_own (P := Tryd.prog) w base 22 ty 5 i (.int .u8 0) 1 1 Tryd.underlying22 hi hz hs hb rfl (by decide) v n (u8s xs) hown a m c (u8s zs) hlz hnew h1 (by unfold maxLen; omega) (by omega) hbase
  obtain ⟨v', w', hr, ho, hg, hni⟩ := hown1 base hown hbase
  refine ⟨v', w', hr, by rw [hcat]; exact ho, hg, ?_⟩
  rcases hown.2 with ⟨rfl, rfl⟩ | ⟨g', cap, cur, rfl, hbg, hgg, hnc, hcm, hcs, htake⟩
  · right
    intro g hvg
    have hx0 : u8s xs = [] := List.length_eq_zero_iff.1 (by simpa using hown.1)
    obtain ⟨v2, w2, hr2, ho2, _, _⟩ := hown1 w.heap.size (by rw [hx0]; exact World.ownsRow_nil _ _ _ _) (Nat.le_refl _)
    rw [hr2] at hr
    cases hr
    exact (ho2.lt g hvg).1
  · have hold := hown.cells (g := g') rfl
    by_cases hroom : n + m ≤ cap
    · have hr2 := run_append_room (P := Tryd.prog) w 22 ty 5 i Tryd.underlying22 hi g' n cap cur hgg a m c (u8s zs) (by rw [hs]; exact hlz) hnew h1 hroom (by rw [hs, hlz, hcs]; omega)
      rw [hr2] at hr
      cases hr
      exact .inl rfl
    · have hr2 := run_append_grow (P := Tryd.prog) w 22 ty 5 i (.int .u8 0) Tryd.underlying22 hi hz ⟨g', 0, none⟩ n cap (u8s xs) (by rw [hs]; exact hown.1) hold a m c (u8s zs) (by rw [hs]; exact hlz) hnew (by omega) (by omega) (growslice_fits (by omega) (by rw [hb]; omega))
      rw [hr2] at hr
      cases hr
      right
      intro g hvg
      have : w.heap.size = g := by simpa [Value.ownBlock] using hvg
      omega

theorem wpList_append_far {ops : Array Oper} {rest : List Oper} {o : Oper} {a : Act} {Q : Exit → Act → World → Prop} {w : World} (hgd : o.guard = none) (s x : Operand)
    (ho : o.op = .call { callee := .builtin .append, args := #[s, x], argTypes := #[22, 22] }) (base : Nat)
    (a0 : Option Addr) (n0 c0 : Nat) (xs : List Int) (hs : a.eval s = .slice a0 n0 c0) (hown : w.ownsRow base 5 1 (.slice a0 n0 c0) n0 (u8s xs))
    (a1 : Option Addr) (n1 c1 : Nat) (zs : List Int) (hx : a.eval x = .slice a1 n1 c1) (hin : BIn w a1 n1 zs) (hnil : a1 = none → n1 = 0 ∧ c1 = 0)
    (hle : n0 + n1 ≤ 1000000) (hbase : base ≤ w.heap.size)
    (h : ∀ a' c' w', w'.ownsRow base 5 1 (.slice a' (n0 + n1) c') (n0 + n1) (u8s (xs ++ zs)) → w.grownBy w' (Value.slice a0 n0 c0).ownBlock →
      ((Value.slice a' (n0 + n1) c').ownBlock = (Value.slice a0 n0 c0).ownBlock ∨ ∀ g, (Value.slice a' (n0 + n1) c').ownBlock = some g → w.heap.size ≤ g) → wpList Tryd.prog ops Q rest (a.put o.dst (.slice a' (n0 + n1) c')) w') :
    wpList Tryd.prog ops Q (o :: rest) a w := by
  obtain ⟨i0, hi, hz0, hz1, hz2⟩ := info_parts Tryd.zero_u8
  obtain ⟨hl, hm, hfit, hcell⟩ := hin
  cases a1 with
  | none =>
    obtain ⟨rfl, rfl⟩ := hnil rfl
    have : zs = [] := List.length_eq_zero_iff.1 hl
    subst this
    refine wpList_append_own_none hgd s x 22 ho base 5 i0 1 Tryd.underlying22 hi _ n0 (u8s xs) hs hown hx ?_
    have := h a0 c0 w (by simpa using hown) ⟨rfl, rfl, rfl, Nat.le_refl _, fun _ _ _ => rfl⟩ (.inl rfl)
    simpa using this
  | some ad =>
    refine wpList_plain hgd fun K hK => ?_
    obtain ⟨v', w', hr, h2, h3, h4⟩ := run_append_far w base o.type (.slice a0 n0 c0) n0 xs hown ad n1 c1 zs hl (by
      intro j u hj
      have hjl : j < n1 := by
        have := (List.getElem?_eq_some_iff.1 hj).1
        rwa [u8s_length, hl] at this
      rcases hcell with hc | ⟨b, off, ha, hc⟩
      · omega
      · cases ha
        rw [Addr.add_mid, hc j hjl, ← hj]
        simp [u8s, List.getD, hl, hjl]) hle hbase
    obtain ⟨a', c', rfl⟩ : ∃ a' c', v' = .slice a' (n0 + n1) c' := by
      rcases h2.2 with ⟨hv, hn⟩ | ⟨g, cap, cur, hv, _⟩
      · exact ⟨none, 0, by rw [hv, hn]⟩
      · exact ⟨_, _, hv⟩
    unfold Oper.wp execOp
    simp only [ho, resolve, invoke, builtin, Sem.run_bind, Sem.run_pure, Result.andThen_ok, List.map_toArray, List.map_cons, List.map_nil, hs, hx, hr]
    exact hK _ _ (h a' c' w' h2 h3 h4)

/-- Two rows of the call's own that share no block. -/
def Two (w : World) (base : Nat) (v1 : Value) (n1 : Nat) (x1 : List Int) (v2 : Value) (n2 : Nat) (x2 : List Int) : Prop :=
  w.ownsRow base 5 1 v1 n1 (u8s x1) ∧ w.ownsRow base 5 1 v2 n2 (u8s x2) ∧ ∀ g, v1.ownBlock = some g → v2.ownBlock ≠ some g
theorem Two.swap {w : World} {base : Nat} {v1 v2 : Value} {n1 n2 : Nat} {x1 x2 : List Int} (h : Two w base v1 n1 x1 v2 n2 x2) : Two w base v2 n2 x2 v1 n1 x1 :=
  ⟨h.2.1, h.1, fun g h2 h1 => h.2.2 g h1 h2⟩
theorem Two.alloc {w : World} {base : Nat} {v1 v2 : Value} {n1 n2 : Nat} {x1 x2 : List Int} (h : Two w base v1 n1 x1 v2 n2 x2) (o : Obj) : Two (w.alloc o) base v1 n1 x1 v2 n2 x2 := ⟨h.1.alloc o, h.2.1.alloc o, h.2.2⟩
theorem own_below {w w' : World} {base : Nat} {v : Value} {n : Nat} {xs : List Value} (h : w.ownsRow base 5 1 v n xs) (hb : Below w.heap.size w w') : w'.ownsRow base 5 1 v n xs := by
  obtain ⟨h1, h2⟩ := h
  refine ⟨h1, ?_⟩
  rcases h2 with h2 | ⟨k, cap, cur, hv, hbk, hk, hr⟩
  · exact .inl h2
  · exact .inr ⟨k, cap, cur, hv, hbk, by rw [hb.block k (Array.getElem?_eq_some_iff.1 hk).1]; exact hk, hr⟩
theorem Two.below {w w' : World} {base : Nat} {v1 v2 : Value} {n1 n2 : Nat} {x1 x2 : List Int} (h : Two w base v1 n1 x1 v2 n2 x2) (hb : Below w.heap.size w w') : Two w' base v1 n1 x1 v2 n2 x2 := ⟨own_below h.1 hb, own_below h.2.1 hb, h.2.2⟩
theorem Two.first {w w' : World} {base : Nat} {v1 v2 v' : Value} {n1 n2 n' : Nat} {x1 x2 x' : List Int} (h : Two w base v1 n1 x1 v2 n2 x2) (ho : w'.ownsRow base 5 1 v' n' (u8s x')) (hg : w.grownBy w' v1.ownBlock)
    (hf : v'.ownBlock = v1.ownBlock ∨ ∀ g, v'.ownBlock = some g → w.heap.size ≤ g) : Two w' base v' n' x' v2 n2 x2 := by
  refine ⟨ho, h.2.1.kept hg ?_, fun g hvg hv2 => ?_⟩
  · cases h1 : v1.ownBlock with
    | none => cases v2.ownBlock <;> simp
    | some g => exact .inr (h.2.2 g h1)
  · rcases hf with hf | hf
    · exact h.2.2 g (hf ▸ hvg) hv2
    · have := hf g hvg
      have := (h.2.1.lt g hv2).2
      omega
theorem Two.grows {w w' u : World} {base : Nat} {v1 v2 : Value} {n1 n2 : Nat} {x1 x2 : List Int} (h : Two w base v1 n1 x1 v2 n2 x2) (hu : Below base u w) (hg : w.grownBy w' v1.ownBlock) (hb : base ≤ w.heap.size) : Below base u w' :=
  hu.grown hg hb (fun k hk => (h.1.lt k hk).1)
theorem own_nil {w : World} {base : Nat} {a : Option Addr} {n c : Nat} {zs : List Value} (h : w.ownsRow base 5 1 (.slice a n c) n zs) : a = none → n = 0 ∧ c = 0 := by
  rintro rfl
  rcases h.2 with ⟨hv, hn⟩ | ⟨g, cap, cur, hv, _⟩
  · cases hv; exact ⟨rfl, rfl⟩
  · cases hv

/-- The document's digest, in the program's terms. -/
theorem refdig_of (a : Option Addr) (n c : Nat) (zs : List Int) (w : World) (hl : BIn w a n zs) (hnil : a = none → n = 0 ∧ c = 0) (hn : n ≤ 100000) :
    Calls Tryd.prog 47 #[.slice a n c] w fun e w' => e = .returned (.agg (u8s (sumI (takeI st0 zs))).toArray) ∧ Below w.heap.size w w' := by
  have h := refsum_of a n c zs w hl hnil hn
  rw [digest_eq hl.1 hl.2.2.1] at h
  exact h
end Go.Proofs.YtpliokkmiijieaaDoor
