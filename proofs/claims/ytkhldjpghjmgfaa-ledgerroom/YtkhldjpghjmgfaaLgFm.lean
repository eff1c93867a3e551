/- What fits: the mathematics. -/
import Derived.Test.YtkhldjpghjmgfaaLgTn
import Derived.Test.YtkhldjpghjmgfaaSSh
namespace Go.Proofs.Ytkhldjpghjmgfaa
open Go.RowKit
set_option linter.unusedVariables false
set_option maxRecDepth 4000

def sumQ (ts : List Tn) : Int := (ts.map (·.quota)).foldr (· + ·) 0
theorem sumQ_cons (t : Tn) (r : List Tn) : sumQ (t :: r) = t.quota + sumQ r := rfl
theorem sumQ_append (a b : List Tn) : sumQ (a ++ b) = sumQ a + sumQ b := by
  induction a with
  | nil => simp [sumQ]
  | cons t r ih => rw [List.cons_append, sumQ_cons, sumQ_cons, ih]; omega
theorem sumQ_next {ts : List Tn} {k : Nat} {t : Tn} (h : ts[k]? = some t) : sumQ (ts.take (k + 1)) = sumQ (ts.take k) + t.quota := by
  rw [List.take_add_one, h, sumQ_append]
  show _ + (t.quota + 0) = _
  omega
theorem sumQ_pos {ts : List Tn} (h : ∀ t ∈ ts, t.Fits) : 0 ≤ sumQ ts := by
  induction ts with
  | nil => exact Int.le_refl _
  | cons t r ih =>
    rw [sumQ_cons]
    have h1 := (h t (by simp)).2.1.1
    have h2 := ih (fun x hx => h x (by simp [hx]))
    omega
theorem sumQ_take {ts : List Tn} (h : ∀ t ∈ ts, t.Fits) (k : Nat) : sumQ (ts.take k) ≤ sumQ ts := by
  have e : sumQ ts = sumQ (ts.take k) + sumQ (ts.drop k) := by rw [← sumQ_append, List.take_append_drop]
  have := sumQ_pos (ts := ts.drop k) (fun t ht => h t (List.mem_of_mem_drop ht))
  omega
def idsT (ts : List Tn) : List Int := ts.map (·.id)
theorem quo_fold : ∀ (l : List Tn) (Q : Qs), Rise Q → ((l.foldl (fun Q t => putQ Q t.id t.quota) Q).length ≤ Q.length + l.length ∧ ((l.foldl (fun Q t => putQ Q t.id t.quota) Q).length = Q.length + l.length ↔ (idsT l).Nodup ∧ ∀ t ∈ l, getQ Q t.id = none))
  | [], Q, _ => by simp [idsT]
  | t :: r, Q, h => by
    obtain ⟨h1, h2⟩ := quo_fold r (putQ Q t.id t.quota) (h.put _ _)
    have hp := put_length h t.id t.quota
    simp only [List.foldl_cons, List.length_cons]
    cases hg : getQ Q t.id with
    | some q =>
      rw [hg] at hp
      simp only [Option.isSome_some, if_true] at hp
      refine ⟨by omega, ⟨fun e => by omega, fun ⟨_, e⟩ => ?_⟩⟩
      have := e t (by simp)
      rw [hg] at this; cases this
    | none =>
      rw [hg] at hp
      simp only [Option.isSome_none] at hp
      rw [if_neg (by simp)] at hp
      refine ⟨by omega, ?_⟩
      have e1 : (r.foldl (fun Q t => putQ Q t.id t.quota) (putQ Q t.id t.quota)).length = Q.length + (r.length + 1) ↔ (r.foldl (fun Q t => putQ Q t.id t.quota) (putQ Q t.id t.quota)).length = (putQ Q t.id t.quota).length + r.length := by rw [hp]; constructor <;> intro h <;> omega
      rw [e1, h2]
      unfold idsT
      simp only [List.map_cons, List.nodup_cons, List.mem_map, List.mem_cons, forall_eq_or_imp, hg, true_and]
      constructor
      · rintro ⟨k1, k2⟩
        refine ⟨⟨?_, k1⟩, fun x hx => ?_⟩
        · rintro ⟨x, hx, hxe⟩
          have := k2 x hx
          rw [get_put h, hxe, if_pos rfl] at this
          cases this
        · have := k2 x hx
          rw [get_put h] at this
          split at this
          · cases this
          · exact this
      · rintro ⟨⟨k1, k2⟩, k3⟩
        refine ⟨k2, fun x hx => ?_⟩
        rw [get_put h, if_neg (fun e => k1 ⟨x, hx, e⟩)]
        exact k3 x hx
theorem quo_nodup (ts : List Tn) : ¬ ((quoS ts).length < ts.length) ↔ (idsT ts).Nodup := by
  obtain ⟨h1, h2⟩ := quo_fold ts [] List.Pairwise.nil
  unfold quoS
  rw [List.length_nil, Nat.zero_add] at h1 h2
  constructor
  · intro h
    exact (h2.1 (by omega)).1
  · intro h
    have := h2.2 ⟨h, fun t _ => rfl⟩
    omega
def logS (s : Sh) : Int := (s.z - 3 - s.r) * (s.zb / 4)
def chkS (s : Sh) : Int := s.zb * ((s.b - 27) / 16)
def capS (s : Sh) : Int := min (logS s) (chkS s)
theorem mul_le {a b c d : Int} (ha : 0 ≤ a) (hb : 0 ≤ b) (hac : a ≤ c) (hbd : b ≤ d) : a * b ≤ c * d :=
  Int.le_trans (Int.mul_le_mul_of_nonneg_right hac hb) (Int.mul_le_mul_of_nonneg_left hbd (Int.le_trans ha hac))
theorem log_bounds {s : Sh} (h : RightS s) : 0 ≤ logS s ∧ logS s ≤ 1000000 := by
  obtain ⟨h1, h2, h3, h4, h5, h6, h7⟩ := h
  unfold logS
  have a1 : 0 ≤ s.z - 3 - s.r := by omega
  have a2 : s.z - 3 - s.r ≤ 256 := by omega
  have b1 : 0 ≤ s.zb / 4 := by omega
  have b2 : s.zb / 4 ≤ 1024 := by omega
  exact ⟨Int.mul_nonneg a1 b1, Int.le_trans (mul_le a1 b1 a2 b2) (by decide)⟩
theorem chk_bounds {s : Sh} (h : RightS s) : 0 ≤ chkS s ∧ chkS s ≤ 2000000 := by
  obtain ⟨h1, h2, h3, h4, h5, h6, h7⟩ := h
  have hb := power_bounds h5
  unfold chkS
  have b1 : 0 ≤ (s.b - 27) / 16 := by omega
  have b2 : (s.b - 27) / 16 ≤ 300 := by omega
  exact ⟨Int.mul_nonneg (by omega) b1, Int.le_trans (mul_le (by omega) b1 h4 b2) (by decide)⟩
theorem cap_bounds {s : Sh} (h : RightS s) : 0 ≤ capS s ∧ capS s ≤ 1000000 := by
  have h1 := log_bounds h
  have h2 := chk_bounds h
  unfold capS
  omega
/-- What the chapter says of quotas that fit. -/
def FitT (s : Sh) (ts : List Tn) : Prop := RightS s ∧ ts.length ≤ 64 ∧ (idsT ts).Nodup ∧ sumQ ts ≤ capS s
instance (s : Sh) (ts : List Tn) : Decidable (FitT s ts) := by unfold FitT; infer_instance
end Go.Proofs.Ytkhldjpghjmgfaa
