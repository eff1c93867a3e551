/- Appending one number to a row of numbers that the call itself made: what the old row held lies there still, whether the row was moved or not. -/
import Derived.Test.YtpliokkmiijieaaDoorApp
namespace Go.Proofs.YtpliokkmiijieaaDoor
open Go.RowKit
set_option linter.unusedVariables false
set_option maxRecDepth 4000

theorem Tryd.zero_u32 : (Tryd.prog.info? 23).map (fun i => (i.zero, i.size, i.bytes)) = some (some (.int .u32 0), 1, 4) := by kernel_rfl

theorem run_append_keep (w : World) (base : Nat) (ty : TypeId) (v : Value) (n : Nat) (xs : List Int) (hown : w.ownsRow base 23 1 v n (u32s xs))
    (a : Addr) (c : Nat) (x : Int) (hnew : w.cell? a = some (.int .u32 x)) (hn : n ≤ 100000) (hbase : base ≤ w.heap.size) :
    ∃ v' w', (Builtin.append_ #[47, 47] ty #[v, .slice (some a) 1 c]).run Tryd.prog w = .ok v' w' ∧ w'.ownsRow base 23 1 v' (n + 1) (u32s (xs ++ [x])) ∧ w.grownBy w' v.ownBlock ∧
      ∀ g j u, v.ownBlock = some g → (u32s xs)[j]? = some u → w'.cell? ⟨g, j, none⟩ = some u := by
  obtain ⟨i, hi, hz, hs, hb⟩ := info_parts Tryd.zero_u32
  have hcat : u32s (xs ++ [x]) = u32s xs ++ [.int .u32 x] := by simp [u32s]
  have hnews : ∀ j u, ([.int .u32 x] : List Value)[j]? = some u → w.cell? (a.add j) = some u := by
    intro j u hj
    match j, hj with
    | 0, hj => simp at hj; subst hj; simpa [Addr.add] using hnew
  have h1 : ∀ u ∈ ([.int .u32 x] : List Value), u.oneCell' = true := by intro u hu; simp at hu; subst hu; rfl
  have hown1 := run_append_own (P := Tryd.prog) w base 47 ty 23 i (.int .u32 0) 1 4 Tryd.underlying47 hi hz hs hb rfl (by decide) v n (u32s xs) hown a 1 c [.int .u32 x] rfl hnews h1 (by unfold maxLen; omega) (by omega) hbase
  obtain ⟨v', w', hr, ho, hg, _⟩ := hown1
  refine ⟨v', w', hr, by rw [hcat]; exact ho, hg, ?_⟩
  intro g j u hvg hu
  rcases hown.2 with ⟨rfl, rfl⟩ | ⟨g', cap, cur, rfl, hbg, hgg, hnc, hcm, hcs, htake⟩
  · simp [Value.ownBlock] at hvg
  · have : g' = g := by simpa [Value.ownBlock] using hvg
    subst this
    have hold := hown.cells (g := g') rfl
    by_cases hroom : n + 1 ≤ cap
    · have hr2 := run_append_room (P := Tryd.prog) w 47 ty 23 i Tryd.underlying47 hi g' n cap cur hgg a 1 c [.int .u32 x] (by simp [hs]) hnews h1 hroom (by simp [hs, hcs]; omega)
      rw [hr2] at hr
      cases hr
      have := ho.cells (g := g') rfl j u (by rw [List.getElem?_append_left (List.getElem?_eq_some_iff.1 hu).1]; exact hu)
      rwa [Addr.add_mid, Nat.zero_add] at this
    · have hr2 := run_append_grow (P := Tryd.prog) w 47 ty 23 i (.int .u32 0) Tryd.underlying47 hi hz ⟨g', 0, none⟩ n cap (u32s xs) (by rw [hs]; exact hown.1) hold a 1 c [.int .u32 x] (by simp [hs]) hnews (by omega) (by omega) (growslice_fits (by omega) (by rw [hb]; omega))
      rw [hr2] at hr
      cases hr
      have := hold j u hu
      rw [Addr.add_mid, Nat.zero_add] at this
      rw [World.cell?_alloc_lt _ _ _ (by exact World.block_lt_of_cell? w _ this)]
      exact this

theorem step_append_keep {ops : Array Oper} {o : Oper} {a : Act} {w : World} {K : Act → World → Prop} {Q : Exit → Act → World → Prop} {E : Prop} (hgd : o.guard = none) (s x : Operand)
    (ho : o.op = .call { callee := .builtin .append, args := #[s, x], argTypes := #[47, 47] }) (base : Nat) (v : Value) (n : Nat) (xs : List Int) (hs : a.eval s = v) (hown : w.ownsRow base 23 1 v n (u32s xs))
    (ad : Addr) (c : Nat) (y : Int) (hx : a.eval x = .slice (some ad) 1 c) (hnew : w.cell? ad = some (.int .u32 y)) (hn : n ≤ 100000) (hbase : base ≤ w.heap.size)
    (h : ∀ v' w', w'.ownsRow base 23 1 v' (n + 1) (u32s (xs ++ [y])) → w.grownBy w' v.ownBlock → (∀ g j u, v.ownBlock = some g → (u32s xs)[j]? = some u → w'.cell? ⟨g, j, none⟩ = some u) → K (a.put o.dst v') w') :
    if Region.wanted o (yielded ops a.tmps) = true then Oper.wp Tryd.prog o a w K Q else E := by
  rw [if_pos (by simp [Region.wanted, hgd])]
  obtain ⟨v', w', hr, h2, h3, h4⟩ := run_append_keep w base o.type v n xs hown ad c y hnew hn hbase
  unfold Oper.wp execOp
  simp only [ho, resolve, invoke, builtin, Sem.run_bind, Sem.run_pure, Result.andThen_ok, List.map_toArray, List.map_cons, List.map_nil, hs, hx, hr]
  exact h v' w' h2 h3 h4
theorem wpList_append_keep {ops : Array Oper} {rest : List Oper} {o : Oper} {a : Act} {w : World} {Q : Exit → Act → World → Prop} (hgd : o.guard = none) (s x : Operand)
    (ho : o.op = .call { callee := .builtin .append, args := #[s, x], argTypes := #[47, 47] }) (base : Nat) (v : Value) (n : Nat) (xs : List Int) (hs : a.eval s = v) (hown : w.ownsRow base 23 1 v n (u32s xs))
    (ad : Addr) (c : Nat) (y : Int) (hx : a.eval x = .slice (some ad) 1 c) (hnew : w.cell? ad = some (.int .u32 y)) (hn : n ≤ 100000) (hbase : base ≤ w.heap.size)
    (h : ∀ v' w', w'.ownsRow base 23 1 v' (n + 1) (u32s (xs ++ [y])) → w.grownBy w' v.ownBlock → wpList Tryd.prog ops Q rest (a.put o.dst v') w') : wpList Tryd.prog ops Q (o :: rest) a w :=
  wpList_plain hgd fun K hK => by
    have := step_append_keep (ops := ops) (Q := Q) (E := True) (K := K) hgd s x ho base v n xs hs hown ad c y hx hnew hn hbase (fun v' w' h1 h2 _ => hK _ _ (h v' w' h1 h2))
    rwa [if_pos (by simp [Region.wanted, hgd])] at this
theorem cell_alloc {w : World} {a : Addr} {v : Value} (h : w.cell? a = some v) (o : Obj) : (w.alloc o).cell? a = some v := by
  rw [World.cell?_alloc_lt _ _ _ (old_block h)]; exact h
end Go.Proofs.YtpliokkmiijieaaDoor
