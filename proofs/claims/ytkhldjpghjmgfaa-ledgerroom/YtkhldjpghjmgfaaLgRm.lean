/- Tenants that are cut, appended, halved; what fits with fewer, smaller, in any order. -/
import Derived.Test.YtkhldjpghjmgfaaLgF
import Derived.Test.YtkhldjpghjmgfaaLgRow
import Derived.Test.YtkhldjpghjmgfaaLgKn
namespace Go.Proofs.Ytkhldjpghjmgfaa
open Go.RowKit
set_option linter.unusedVariables false
set_option maxRecDepth 4000

def halfT (t : Tn) : Tn := { t with quota := t.quota / 2 }
theorem half_fits {t : Tn} (h : t.Fits) : (halfT t).Fits := by
  obtain ⟨h1, h2, h3⟩ := h
  refine ⟨h1, ?_, h3⟩
  unfold FitsQ at h2 ⊢
  show 0 ≤ t.quota / 2 ∧ t.quota / 2 < _
  omega
theorem ids_half (ts : List Tn) : idsT (ts.map halfT) = idsT ts := by unfold idsT; rw [List.map_map]; rfl
theorem sum_half {ts : List Tn} (h : ∀ t ∈ ts, t.Fits) : sumQ (ts.map halfT) ≤ sumQ ts := by
  induction ts with
  | nil => exact Int.le_refl _
  | cons t r ih =>
    rw [List.map_cons, sumQ_cons, sumQ_cons]
    have h1 := (h t (by simp)).2.1
    unfold FitsQ at h1
    have h2 := ih (fun x hx => h x (by simp [hx]))
    show t.quota / 2 + _ ≤ _
    omega
theorem fit_turned (s : Sh) (ts : List Tn) (N : Nat) : decide (FitT s (ts.drop N ++ ts.take N)) = decide (FitT s ts) := by
  have hp : (ts.drop N ++ ts.take N).Perm ts := List.perm_append_comm.trans (by rw [List.take_append_drop])
  have e1 : (ts.drop N ++ ts.take N).length = ts.length := hp.length_eq
  have e2 : (idsT (ts.drop N ++ ts.take N)).Nodup ↔ (idsT ts).Nodup := by unfold idsT; exact (hp.map (fun t : Tn => t.id)).nodup_iff
  have e3 : sumQ (ts.drop N ++ ts.take N) = sumQ ts := by
    rw [sumQ_append, Int.add_comm, ← sumQ_append, List.take_append_drop]
  apply decide_eq_decide.2
  unfold FitT
  rw [e1, e2, e3]
theorem fit_take {s : Sh} {ts : List Tn} (hf : ∀ t ∈ ts, t.Fits) (h : FitT s ts) (N : Nat) : FitT s (ts.take N) := by
  obtain ⟨h1, h2, h3, h4⟩ := h
  refine ⟨h1, ?_, ?_, Int.le_trans (sumQ_take hf N) h4⟩
  · rw [List.length_take]; omega
  · unfold idsT at h3 ⊢
    rw [List.map_take]
    exact h3.sublist (List.take_sublist _ _)
theorem fit_half {s : Sh} {ts : List Tn} (hf : ∀ t ∈ ts, t.Fits) (h : FitT s ts) : FitT s (ts.map halfT) := by
  obtain ⟨h1, h2, h3, h4⟩ := h
  exact ⟨h1, by rw [List.length_map]; exact h2, by rw [ids_half]; exact h3, Int.le_trans (sum_half hf) h4⟩
theorem fit_nil (s : Sh) : decide (FitT s []) = decide (RightS s) := by
  apply decide_eq_decide.2
  refine ⟨fun h => h.1, fun h => ⟨h, by simp, by simp [idsT], ?_⟩⟩
  have := (cap_bounds h).1
  simpa [sumQ] using this
def bigT : List Tn := [tn1 1 18446744073709551615, tn1 2 1]
theorem fit_big (s : Sh) : decide (FitT s bigT) = false := by
  apply decide_eq_false
  rintro ⟨h1, _, _, h4⟩
  have := (cap_bounds h1).2
  have e : sumQ bigT = 18446744073709551616 := by decide
  omega
theorem big_ts {w : World} {g : Nat} (h : Blk w g (rowC tC bigT) 48) : TsL w (some ⟨g, 0, none⟩) 2 bigT :=
  ⟨rfl, fun t ht => by
    simp only [bigT, List.mem_cons, List.not_mem_nil, or_false] at ht
    rcases ht with rfl | rfl
    · exact ⟨⟨by decide, by decide⟩, ⟨by decide, by decide⟩, by decide, by decide⟩
    · exact ⟨⟨by decide, by decide⟩, ⟨by decide, by decide⟩, by decide, by decide⟩, .inr ⟨g, 0, rfl, fun i t ht => by
    match i, ht with
    | 0, ht => cases ht; exact h.range 0 _ (fun j hj => by match j, hj with | 0, _ => rfl | 1, _ => rfl | 2, _ => rfl | 3, _ => rfl | 4, _ => rfl)
    | 1, ht => cases ht; exact h.range 5 _ (fun j hj => by match j, hj with | 0, _ => rfl | 1, _ => rfl | 2, _ => rfl | 3, _ => rfl | 4, _ => rfl)⟩⟩
theorem Try.zero_tn : (Try.prog.info? 48).map (fun i => (i.zero, i.size, i.bytes)) = some (some (.agg tn0.toArray), 5, 72) := by kernel_rfl
theorem Try.five_tens : ∀ w : World, (sizeOf (Try.prog.elem 24)).run Try.prog w = .ok 5 w := fun _ => by kernel_rfl
theorem Try.elem_tens : Try.prog.underlying 24 = some (.slice (Try.prog.elem 24)) := by kernel_rfl
theorem ts_slice_front (a : Option Addr) (n c k : Nat) (hk : k ≤ c) (w : World) : (Instr.slice 24 (.slice a n c) none (some (.int .i64 (k : Int))) none).run Try.prog w = .ok (.slice a k c) w := by
  rw [run_slice_h (P := Try.prog) w 24 a n c Try.elem_tens .i64 k (by omega) (by omega), Try.five_tens w]
  simp only [Result.andThen, Int.toNat_natCast]
  unfold sliced
  cases a with
  | none => simp
  | some x => simp [Addr.add]
theorem ts_slice_back (a : Option Addr) (n c k : Nat) (hk : k ≤ n) (hc : n ≤ c) (w : World) : (Instr.slice 24 (.slice a n c) (some (.int .i64 (k : Int))) none none).run Try.prog w = .ok (.slice (if c = k then a else a.map (·.add (k * 5))) (n - k) (c - k)) w := by
  rw [run_slice_l (P := Try.prog) w 24 a n c Try.elem_tens .i64 k (by omega) (by omega), Try.five_tens w]
  simp only [Result.andThen, Int.toNat_natCast]
  unfold sliced
  rfl
theorem TsL.front {w : World} {a : Option Addr} {n : Nat} {ts : List Tn} (h : TsL w a n ts) {k : Nat} (hk : k ≤ n) : TsL w a k (ts.take k) := by
  obtain ⟨h1, h2, h3⟩ := h
  refine ⟨by rw [List.length_take]; omega, fun t ht => h2 t (List.mem_of_mem_take ht), ?_⟩
  rcases h3 with h3 | ⟨b, off, ha, h3⟩
  · exact .inl (by omega)
  · exact .inr ⟨b, off, ha, fun i t ht => by
      rw [List.getElem?_take] at ht
      split at ht
      · exact h3 i t ht
      · cases ht⟩
theorem TsL.back {w : World} {a : Option Addr} {n c : Nat} {ts : List Tn} (h : TsL w a n ts) {k : Nat} (hk : k ≤ n) (hc : n ≤ c) : TsL w (if c = k then a else a.map (·.add (k * 5))) (n - k) (ts.drop k) := by
  obtain ⟨h1, h2, h3⟩ := h
  refine ⟨by rw [List.length_drop]; omega, fun t ht => h2 t (List.mem_of_mem_drop ht), ?_⟩
  by_cases hz : n - k = 0
  · exact .inl hz
  · obtain ⟨b, off, ha, h3⟩ := h3.resolve_left (by omega)
    rw [if_neg (by omega), ha]
    refine .inr ⟨b, off + k * 5, by rw [Option.map_some, Addr.add_mid], fun i t ht => ?_⟩
    rw [List.getElem?_drop] at ht
    have := h3 (k + i) t ht
    have e : off + k * 5 + i * 5 = off + (k + i) * 5 := by rw [Nat.add_mul]; omega
    rw [e]; exact this
/-- Tenants behind a row of one's own. -/
theorem wpList_append_ts {ops : Array Oper} {rest : List Oper} {o : Oper} {a : Act} {Q : Exit → Act → World → Prop} {w : World} (hgd : o.guard = none) (s x : Operand)
    (ho : o.op = .call { callee := .builtin .append, args := #[s, x], argTypes := #[24, 24] }) (base : Nat)
    (a0 : Option Addr) (n0 c0 : Nat) (xs : List Tn) (hs : a.eval s = .slice a0 n0 c0) (hown : w.ownsRow base 48 5 (.slice a0 n0 c0) n0 (rowC tC xs))
    (a1 : Option Addr) (n1 c1 : Nat) (ys : List Tn) (hx : a.eval x = .slice a1 n1 c1) (hin : TsL w a1 n1 ys) (hnil : a1 = none → n1 = 0 ∧ c1 = 0)
    (hle : n0 + n1 ≤ 1000) (hbase : base ≤ w.heap.size)
    (h : ∀ a' c' w', w'.ownsRow base 48 5 (.slice a' (n0 + n1) c') (n0 + n1) (rowC tC (xs ++ ys)) → Below base w w' → wpList Try.prog ops Q rest (a.put o.dst (.slice a' (n0 + n1) c')) w') :
    wpList Try.prog ops Q (o :: rest) a w := by
  obtain ⟨i0, hi, hz0, hz1, hz2⟩ := info_parts Try.zero_tn
  obtain ⟨hl, hfit, hcell⟩ := hin
  cases a1 with
  | none =>
    obtain ⟨rfl, rfl⟩ := hnil rfl
    have : ys = [] := List.length_eq_zero_iff.1 hl
    subst this
    refine wpList_append_own_none hgd s x 24 ho base 48 i0 5 Try.underlying24 hi _ n0 (rowC tC xs) hs hown hx ?_
    have := h a0 c0 w (by simpa using hown) (Below.refl _ _)
    simpa using this
  | some ad =>
    refine wpList_append_own w hgd s x 24 ho base 48 i0 (.agg tn0.toArray) 5 72 Try.underlying24 hi hz0 hz1 hz2 rfl (by decide) _ n0 (rowC tC xs) hs hown ad n1 c1 (rowC tC ys) hx (by rw [rowC_length tC_length, hl]) ?_ (rowC_one tC_one _) (by unfold maxLen; omega) (by omega) hbase ?_
    · intro j u hj
      have hjl : j < n1 * 5 := by
        have := (List.getElem?_eq_some_iff.1 hj).1
        rwa [rowC_length tC_length, hl] at this
      obtain ⟨b, off, ha, hc⟩ := hcell.resolve_left (by omega)
      cases ha
      have hi5 : j / 5 < n1 := by omega
      obtain ⟨t, ht⟩ : ∃ t, ys[j / 5]? = some t := ⟨_, List.getElem?_eq_getElem (by omega)⟩
      have e : j / 5 * 5 + j % 5 = j := by omega
      have hr := rowC_at tC_length ys (j / 5) t (j % 5) ht (by omega)
      rw [e, hj] at hr
      have := hc (j / 5) t ht (j % 5) u hr.symm
      rw [Addr.add_mid]
      have e2 : off + j / 5 * 5 + j % 5 = off + j := by omega
      rw [e2] at this
      exact this
    · intro v' w' hown' hgrow _
      have hb : Below base w w' := (Below.refl base w).grown hgrow hbase (fun k hk => (hown.lt k hk).1)
      rw [← rowC_app] at hown'
      obtain ⟨a', c', rfl⟩ := own_slice hown'
      exact h a' c' w' hown' hb
theorem own_tsl {w : World} {B : Nat} {a : Option Addr} {n c : Nat} {ts : List Tn} (h : w.ownsRow B 48 5 (.slice a n c) n (rowC tC ts)) (hf : ∀ t ∈ ts, t.Fits) : TsL w a n ts := by
  obtain ⟨h1, h2⟩ := own_row tC_length (by decide) h
  refine ⟨h1, hf, ?_⟩
  rcases h2 with h2 | ⟨g, hg, h2⟩
  · exact .inl h2
  · exact .inr ⟨g, 0, hg, fun i t ht => by rw [Nat.zero_add]; exact h2 i t ht⟩
/-- One tenant more, as the code lays it. -/
theorem app_tn {W : World} {B : Nat} {a : Option Addr} {n cc : Nat} {xs : List Tn} (h : W.ownsRow B 48 5 (.slice a n cc) n (rowC tC xs)) (t : Tn) (hn : n ≤ 1000) (hB : B ≤ W.heap.size) (q : Nat) (hq : W.heap.size = q) :
    ∃ g' cc' W', (Builtin.append_ #[24, 24] 24 #[.slice a n cc, .slice (some ⟨q, 0, none⟩) 1 1]).run Try.prog (W.alloc (.cells #[.int .u32 t.id, .slice t.ka t.kn t.kc, .int .u64 t.quota, .int .u64 t.size, .slice t.ga t.gn t.gc] 48)) = .ok (.slice (some ⟨g', 0, none⟩) (n + 1) cc') W' ∧
      W'.ownsRow B 48 5 (.slice (some ⟨g', 0, none⟩) (n + 1) cc') (n + 1) (rowC tC (xs ++ [t])) ∧ W.grownBy W' (Value.slice a n cc).ownBlock :=
  app_one Try.underlying24 Try.zero_tn rfl (by decide) (by decide) tC_length tC_one h t _ rfl (by omega) hB q hq
end Go.Proofs.Ytkhldjpghjmgfaa
