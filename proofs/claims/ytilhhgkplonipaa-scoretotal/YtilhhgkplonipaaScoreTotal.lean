/- Order is an order of all numbers. -/
import Derived.Test.YtilhhgkplonipaaRows
import Derived.Test.YtilhhgkplonipaaFOpen
import Derived.WalkKit
import Derived.ProofKit
import Derived.OpenShut
import Derived.ShutString
import Derived.ChangeOld
import Derived.Below
namespace Go.Proofs.Ytilhhgkplonipaa.scoreTotal
open Go.ChangeShapes Go.WideShapes Go.ChangeAt Go.RowKit
open Go.ChangeMaps (open_string shut_string)
set_option linter.unusedVariables false      -- a walk need not use every 'w<i>' (that an integer argument fits its kind)

theorem own : ownKnob Try.prog.godebug = none := by kernel_rfl

theorem ord_back (x y : Nat) : ordI x y = -ordI y x := by
  unfold ordI
  by_cases a : Nan x <;> by_cases b : Nan y <;> simp only [a, b, if_true, if_false] <;> first
    | rfl
    | (by_cases c : key x < key y
       · have d : ¬ key y < key x := by omega
         simp [c, d]
       · by_cases d : key y < key x
         · simp [c, d]
         · simp [c, d])
theorem ord_self (x : Nat) : ordI x x = 0 := by
  unfold ordI
  by_cases a : Nan x <;> simp [a]
theorem ord_step (x y z : Nat) (h : ordI x y ≤ 0) (g : ordI y z ≤ 0) : ordI x z ≤ 0 := by
  have p : ∀ u v, ordI u v ≤ 0 ↔ (Nan u ∨ (¬ Nan v ∧ key u ≤ key v)) := by
    intro u v
    have := ordI_pos u v
    constructor
    · intro k
      by_cases a : Nan u
      · exact .inl a
      · refine .inr ⟨fun b => ?_, ?_⟩
        · have := this.2 ⟨a, .inl b⟩; omega
        · rcases Int.lt_or_le (key v) (key u) with c | c
          · have := this.2 ⟨a, .inr c⟩; omega
          · exact c
    · intro k
      rcases Int.lt_or_le 0 (ordI u v) with c | c
      · obtain ⟨a, b⟩ := this.1 c
        rcases k with k | ⟨k1, k2⟩
        · exact absurd k a
        · rcases b with b | b
          · exact absurd b k1
          · omega
      · exact c
  rw [p] at h g ⊢
  rcases h with h | ⟨h1, h2⟩
  · exact .inl h
  · rcases g with g | ⟨g1, g2⟩
    · exact absurd g h1
    · exact .inr ⟨g1, by omega⟩
theorem ord_same (x y z : Nat) (h : ordI x y = 0) : ordI y z = ordI x z := by
  have q : ∀ u v, ordI u v = 0 ↔ ((Nan u ∧ Nan v) ∨ (¬ Nan u ∧ ¬ Nan v ∧ key u = key v)) := by
    intro u v
    unfold ordI
    by_cases a : Nan u <;> by_cases b : Nan v <;> simp [a, b]
    by_cases c : key u < key v
    · simp [c]; omega
    · by_cases d : key v < key u
      · simp [c, d]; omega
      · simp [c, d]; omega
  rcases (q x y).1 h with ⟨a, b⟩ | ⟨a, b, c⟩
  · unfold ordI; simp only [a, b, if_true]
  · unfold ordI; simp only [a, b, if_false, c]
theorem ord_rng (x y : Nat) : ordI x y = -1 ∨ ordI x y = 0 ∨ ordI x y = 1 := by
  unfold ordI
  by_cases a : Nan x <;> by_cases b : Nan y <;> simp [a, b]
  by_cases c : key x < key y
  · exact .inl (by intro; omega)
  · by_cases d : key y < key x
    · simp [c, d]
    · simp [c, d]
theorem walk (a0 : Nat) (a1 : Nat) (a2 : Nat) (w : World) (w0 : (Lit.float .f64 a0).wf = true) (w1 : (Lit.float .f64 a1).wf = true) (w2 : (Lit.float .f64 a2).wf = true) :
    Calls Try.prog 6 #[.float .f64 a0, .float .f64 a1, .float .f64 a2] w fun e w' => e = .returned (.bool true) ∧ Below w.heap.size w w' := by
  have o1 := ord_back a0 a1
  have o2 := ord_self a0
  have o3 := ord_step a0 a1 a2
  have o4 := ord_same a0 a1 a2
  obtain ⟨X, hX⟩ : ∃ X, X = ordI a0 a1 := ⟨_, rfl⟩
  obtain ⟨Y, hY⟩ : ∃ Y, Y = ordI a1 a2 := ⟨_, rfl⟩
  obtain ⟨Z, hZ⟩ : ∃ Z, Z = ordI a0 a2 := ⟨_, rfl⟩
  obtain ⟨V, hV⟩ : ∃ V, V = ordI a1 a0 := ⟨_, rfl⟩
  have c1 := order_of a0 a1 w
  have c2 := order_of a1 a2 w
  have c3 := order_of a0 a2 w
  have c4 := order_of a1 a0 w
  have c5 := order_of a0 a0 w
  have r4 := ord_rng a1 a0
  rw [← hX] at o1 o3 o4 c1
  rw [← hY] at o3 o4 c2
  rw [← hZ] at o3 o4 c3
  rw [← hV] at o1 c4 r4
  rw [o2] at c5
  have parts : (X = 1 ∧ V = -1) ∨ (X = -1 ∧ V = 1 ∧ Y ≤ 0 ∧ Z ≤ 0) ∨ (X = -1 ∧ V = 1 ∧ 0 < Y) ∨ (X = 0 ∧ V = 0 ∧ Y = Z ∧ Z ≤ 0) ∨ (X = 0 ∧ V = 0 ∧ Y = Z ∧ 0 < Z) := by omega
  clear o1 o2 o3 o4 hX hY hZ hV r4 w0 w1 w2
  have e1 : wrap64 (-1) = -1 := by unfold wrap64; omega
  have e2 : wrap64 1 = 1 := by unfold wrap64; omega
  have e3 : wrap64 0 = 0 := by unfold wrap64; omega
  rcases parts with ⟨rfl, rfl⟩ | ⟨rfl, rfl, y1, y2⟩ | ⟨rfl, rfl, y1⟩ | ⟨rfl, rfl, rfl, y1⟩ | ⟨rfl, rfl, rfl, y1⟩
  all_goals
    go_enter Try.func6, Try.ntmps6
    go_wp2_with fail
    refine c1.mono ?_
    rintro e w' ⟨rfl, rfl⟩
    go_wp2_with fail
    refine c2.mono ?_
    rintro e w' ⟨rfl, rfl⟩
    go_wp2_with fail
    refine c3.mono ?_
    rintro e w' ⟨rfl, rfl⟩
    go_wp2_with fail
    refine c4.mono ?_
    rintro e w' ⟨rfl, rfl⟩
    go_wp2_with fail
    refine c5.mono ?_
    rintro e w' ⟨rfl, rfl⟩
    go_wp2_with fail
    refine (known_any w').mono ?_
    rintro e W1 ⟨rfl, b1⟩
    go_wp2
    go_ret
    exact ⟨rfl, b1⟩

set_option maxRecDepth 100000 in
theorem lifted (os : Os) (started : os.Started) (H : Type) (enc : TypeId × Value → H) :
    ReturnsInHanded {} Try.checked os 6 .any (Rows.scoreTotalSpec.pre6 enc Try.prog Try.f6 Rows.scoreTotalRow.domain false) (Rows.scoreTotalSpec.post enc Try.prog Try.f6 false true false false) := by
  refine returnsInHanded_of_change (C := Try.checked) own started (by kernel_rfl) Try.func6
    (ChangeSpec.witness6 (enc := enc) (C := Try.checked) false ⟨#[], #[.float .f64 0, .float .f64 0, .float .f64 0], []⟩ 8 (by kernel_rfl) (by kernel_rfl) (by kernel_rfl) (by kernel_rfl)) ?_
  intro W base args ds gs before hval0 hW hcnd _
  have hval : ∀ (j : Nat) t v, Try.f6.params[j]? = some t → args[j]? = some v → Value.okWide Try.prog W .any base t v := hval0
  have hW' := hW
  obtain ⟨p, q, hA0, hV, rfl, hfz, hnd⟩ := hW
  have hA : DataW.TrodAll enc Try.prog W 0 (fun _ => true) true Try.f6.params.toList args.toList ds p := hA0
  rw [Try.params6] at hA hval
  obtain ⟨v0, vs0, d0, ds0, p0, q0, hargs, rfl, rfl, h0, r0⟩ := trodAll_cons hA
  obtain ⟨v1, vs1, d1, ds1, p1, q1, rfl, rfl, rfl, h1, r1⟩ := trodAll_cons r0
  obtain ⟨v2, vs2, d2, ds2, p2, q2, rfl, rfl, rfl, h2, r2⟩ := trodAll_cons r1
  obtain ⟨rfl, rfl, rfl⟩ := trodAll_nil r2
  obtain rfl : args = #[v0, v1, v2] := by cases args; simp_all
  obtain ⟨rfl, rfl⟩ := trodVars_none hV
  obtain ⟨a0, rfl, rfl, rfl, w0⟩ := open_float Try.underlying22 (hval 0 22 v0 rfl rfl) h0
  obtain ⟨a1, rfl, rfl, rfl, w1⟩ := open_float Try.underlying22 (hval 1 22 v1 rfl rfl) h1
  obtain ⟨a2, rfl, rfl, rfl, w2⟩ := open_float Try.underlying22 (hval 2 22 v2 rfl rfl) h2
  clear hA0 hval0
  refine (walk a0 a1 a2 W w0 w1 w2).mono fun e W' ⟨he, bel⟩ => ?_
  subst he
  exact ⟨_, rfl, _, _, _, [], _, [], hW', trodAll_mk1 (shut_bool Try.underlying4 _), (trodAll_cons_mk (shut_float Try.underlying22 w0) (trodAll_cons_mk (shut_float Try.underlying22 w1) (trodAll_cons_mk (shut_float Try.underlying22 w2) trodAll_mk0))), rfl, bel.frame _, fun h => by cases h⟩

theorem over : Rows.scoreTotalRow.holds Try.pinned (OpenSpec.ofChange Rows.scoreTotalSpec) :=
  OpenClaim.holds_of_wide 6 Try.f6 rfl rfl rfl rfl rfl rfl rfl ⟨rfl, rfl, rfl, rfl, rfl⟩ rfl rfl rfl rfl rfl (by kernel_rfl) Try.func6 (by kernel_rfl)
    (of_decide_eq_true (by kernel_rfl)) (by unfold Func.isWrapper; first | (rw [if_pos (by decide +kernel)]; kernel_rfl) | (rw [if_neg (by decide +kernel)]; exact ⟨rfl, rfl⟩))
    (fun os started H enc _ => lifted os started H enc)

end Go.Proofs.Ytilhhgkplonipaa.scoreTotal
namespace Go.Proofs.Ytilhhgkplonipaa
/-- The statement. -/
theorem scoreTotal_holds : Rows.ScoreTotalSaid := scoreTotal.over
#print axioms scoreTotal_holds
end Go.Proofs.Ytilhhgkplonipaa
