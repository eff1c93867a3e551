/- What one call of the program's Take does: the lists. -/
import Derived.Test.YthmhphjblglcoaaPiA
namespace Go.Proofs.Ythmhphjblglcoaa
open Go.RowKit
set_option linter.unusedVariables false
set_option maxRecDepth 4000
theorem results_cell_two {P : Program} {fn : Func} {p u : Tmp} {ty : TypeId} (h : fn.results = #[.cell p ty, .tmp u]) (tmps : Array Value) (w : World) (g : Nat) (L : List Value) (t : TypeId) (d : TypeDesc) (hp : tmps.getD p undef = .pointer (some ⟨g, 0, none⟩))
    (hb : Blk w g L t) (hu : P.underlying ty = some d) (hd : d.isRow = true) (hi : (P.info? ty).map (·.size) = some L.length) (x : Value) (hx : tmps.getD u undef = x) : (results fn tmps).run P w = .ok (.tuple #[.agg L.toArray, x]) w := by
  subst hx
  have hl := run_loadVar_row (P := P) w g t ty L.toArray (0, 0) d hb hu (by cases d <;> first | rfl | cases hd) (by simpa using hi)
  rw [results_cell_tmp h, hp]
  simp [asAddr, hl, Result.andThen]

def takeL (l : List Pq) (k : Int) : List Pq := if 0 ≤ k ∧ k < l.length then l.eraseIdx k.toNat else l
theorem Try.under_arr : Try.prog.underlying 47 = some (.array 16 34) := by kernel_rfl
theorem Try.under_reqs : Try.prog.underlying 43 = some (.slice 34) := by kernel_rfl
theorem step_copy_run {P : Program} {w : World} {ops : Array Oper} {o : Oper} {a : Act} {K : Act → World → Prop} {Q : Exit → Act → World → Prop} {E : Prop} (hg : o.guard = none) (s x : Operand) (t t2 : TypeId)
    (hop : o.op = Op.call { callee := Callee.builtin Builtin.copy, args := #[s, x], argTypes := #[t, t2] }) (u y : Value) (hs : a.eval s = u) (hx : a.eval x = y) (v' : Value) (w' : World)
    (hrun : (Builtin.copy_ #[t, t2] o.type #[u, y]).run P w = .ok v' w') (hK : K (a.put o.dst v') w') : if Region.wanted o (yielded ops a.tmps) = true then Oper.wp P o a w K Q else E := by
  have hw : Region.wanted o (yielded ops a.tmps) = true := by simp [Region.wanted, hg]
  rw [if_pos hw]
  unfold Oper.wp
  simp [execOp, hop, resolve, invoke, builtin, hs, hx, hrun, Result.andThen]
  exact hK
/-- The requests behind place k. -/
def mvL (cs : List Value) (k n : Nat) : List Value := (cs.drop ((k + 1) * 6)).take ((n - (k + 1)) * 6)
theorem mvL_length {cs : List Value} {k n : Nat} (h : cs.length = 97) (hn : n ≤ 16) (hk : k < n) : (mvL cs k n).length = (n - (k + 1)) * 6 := by
  simp [mvL, h]; omega
theorem mvL_get {cs : List Value} {k n t : Nat} (ht : t < (n - (k + 1)) * 6) : (mvL cs k n)[t]? = cs[(k + 1) * 6 + t]? := by
  simp [mvL, ht]
/-- The cells once one is taken out. -/
def tkL (cs : List Value) (k n : Nat) : List Value := splice ((splice cs (k * 6) (mvL cs k n)).set 96 (.int .i64 ((n : Int) - 1))) ((n - 1) * 6) (rqL rq0 (.slice none 0 0))
section
variable {X : Nat → Prop} {w w' : World} {b k : Nat} {l : List Pq}
theorem PP.cells (h : PP X w b l) : ∃ cs, Blk w b cs 49 ∧ cs.length = 97 ∧ cs[96]? = some (.int .i64 (l.length : Int)) ∧ (∀ t, t < l.length * 6 → ∃ u, cs[t]? = some u ∧ u.oneCell' = true) ∧
    ∀ w' k, k < l.length → Blk w' b (tkL cs k l.length) 49 → Out (fun x => x = b) w w' → PP X w' b (l.eraseIdx k) := by
  obtain ⟨h1, cs, vs, h2, h3, h4, h5, h6⟩ := h
  refine ⟨cs, h2, h3, h4, fun t ht => ?_, fun w' k hk hb ho => ?_⟩
  · have hi : t / 6 < l.length := by omega
    obtain ⟨v, hv⟩ : ∃ v, vs[t / 6]? = some v := ⟨vs[t / 6]'(by rw [h5.1]; exact hi), by simp⟩
    obtain ⟨A, C, rfl, _⟩ := (h5.2 (t / 6) l[t / 6] v (by simp) hv).form
    have hj : t % 6 < (rqL l[t / 6].1 (.slice A l[t / 6].2.length C)).length := by rw [rqL_length]; omega
    have := h6 (t / 6) l[t / 6] _ (by simp) hv (t % 6) _ (List.getElem?_eq_getElem hj)
    rw [show t / 6 * 6 + t % 6 = t by omega] at this
    exact ⟨_, this, rqL_one _ _ _ _ _ (List.getElem_mem hj)⟩
  · have hm := mvL_length (cs := cs) h3 h1 hk
    have hs1 : (splice cs (k * 6) (mvL cs k l.length)).length = 97 := by rw [length_splice _ _ _ (by rw [hm, h3]; omega), h3]
    have hs2 : (tkL cs k l.length).length = 97 := by unfold tkL; rw [length_splice _ _ _ (by simp [rqL_length, hs1]; omega)]; simp [hs1]
    have hle : (l.eraseIdx k).length = l.length - 1 := by simp [List.length_eraseIdx, hk]
    have hty : ∀ c cur, w.heap[c]? = some (.cells cur 5 (0, 0)) → ¬ c = b := fun c cur hc => blk_type h2 hc pipe_not_u8
    refine ⟨by rw [hle]; omega, _, vs.eraseIdx k, hb, hs2, ?_, (h5.erase k).out ho (fun c cur _ hc => hty c cur hc), fun i p v g1 g2 j u hj => ?_⟩
    · unfold tkL
      rw [splice_hi (by rw [rqL_length]; omega) (by simp [rqL_length, hs1]; omega), List.getElem?_set]
      simp [hs1, hle]
      omega
    · have hj6 : j < 6 := by have := (List.getElem?_eq_some_iff.1 hj).1; simpa [rqL] using this
      have hi := (List.getElem?_eq_some_iff.1 g1).1
      rw [hle] at hi
      unfold tkL
      rw [splice_lo (by omega) (by simp [hs1]; omega), List.getElem?_set, if_neg (by omega)]
      rw [List.getElem?_eraseIdx] at g1 g2
      by_cases hik : i < k
      · rw [if_pos hik] at g1 g2
        rw [splice_lo (by omega) (by omega)]
        exact h6 i p v g1 g2 j u hj
      · rw [if_neg hik] at g1 g2
        rw [show i * 6 + j = k * 6 + ((i - k) * 6 + j) by omega, splice_mid (by rw [hm]; omega) (by omega), mvL_get (by omega)]
        rw [show (k + 1) * 6 + ((i - k) * 6 + j) = (i + 1) * 6 + j by omega]
        exact h6 (i + 1) p v g1 g2 j u hj
end
end Go.Proofs.Ythmhphjblglcoaa
