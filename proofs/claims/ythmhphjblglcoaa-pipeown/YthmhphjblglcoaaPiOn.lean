/- A row of the law's own, of requests that came in; one is put behind it, one is left out. -/
import Derived.Test.YthmhphjblglcoaaPiLw
namespace Go.Proofs.Ythmhphjblglcoaa
open Go.RowKit
set_option linter.unusedVariables false
set_option maxRecDepth 4000
theorem hid_of {p : Prop} (h : p) : Hid p := h
/-- Data that came in. -/
def QW (w : World) (p : Pq) (v : Value) : Prop := ∃ A k C, v = .slice A k C ∧ DIn w A k C p.2 ∧ p.1.Fits ∧ p.2.length ≤ 100
structure IrS (w wr : World) (A : Option Addr) (C : Nat) (L : List Pq) : Prop where
  ow : ∃ us, wr.ownsRow 0 34 6 (.slice A L.length C) L.length (rqC L us) ∧ us.length = L.length ∧ ∀ (i : Nat) (p : Pq) (v : Value), L[i]? = some p → us[i]? = some v → QW w p v
  hi : ∀ g, (Value.slice A L.length C).ownBlock = some g → w.heap.size ≤ g
  bel : Below w.heap.size w wr
theorem rqC_take : ∀ (l : List Pq) (vs : List Value) (k : Nat), vs.length = l.length → (rqC l vs).take (k * 6) = rqC (l.take k) (vs.take k)
  | [], [], k, _ => by simp [rqC]
  | [], _ :: _, _, h => by simp at h
  | _ :: _, [], _, h => by simp at h
  | q :: l, u :: vs, 0, _ => by simp [rqC]
  | q :: l, u :: vs, k + 1, h => by
    have := rqC_take l vs k (by simpa using h)
    simp only [rqC, List.take_succ_cons]
    rw [← this, show (k + 1) * 6 = (rqL q.1 u).length + k * 6 by rw [rqL_length]; omega, List.take_length_add_append]
theorem rqC_drop : ∀ (l : List Pq) (vs : List Value) (k : Nat), vs.length = l.length → (rqC l vs).drop (k * 6) = rqC (l.drop k) (vs.drop k)
  | [], [], k, _ => by simp [rqC]
  | [], _ :: _, _, h => by simp at h
  | _ :: _, [], _, h => by simp at h
  | q :: l, u :: vs, 0, _ => by simp [rqC]
  | q :: l, u :: vs, k + 1, h => by
    have := rqC_drop l vs k (by simpa using h)
    simp only [rqC, List.drop_succ_cons]
    rw [← this, show (k + 1) * 6 = (rqL q.1 u).length + k * 6 by rw [rqL_length]; omega, List.drop_length_add_append]
theorem rqC_one : ∀ (l : List Pq) (vs : List Value), vs.length = l.length → (∀ v ∈ vs, ∃ A k C, v = .slice A k C) → ∀ u ∈ rqC l vs, u.oneCell' = true
  | [], [], _, _, u, hu => by simp [rqC] at hu
  | [], _ :: _, h, _, _, _ => by simp at h
  | _ :: _, [], h, _, _, _ => by simp at h
  | q :: l, v :: vs, h, hv, u, hu => by
    simp only [rqC, List.mem_append] at hu
    rcases hu with hu | hu
    · obtain ⟨A, k, C, rfl⟩ := hv v (by simp)
      exact rqL_one _ _ _ _ u hu
    · exact rqC_one l vs (by simpa using h) (fun x hx => hv x (by simp [hx])) u hu
section
variable {w wr w' : World} {A : Option Addr} {C : Nat} {L : List Pq}
theorem IrS.start (w wr : World) (h : Below w.heap.size w wr) : IrS w wr none 0 [] := ⟨⟨[], World.ownsRow_nil _ _ _ _, rfl, fun i p v h => by simp at h⟩, (fun g h => by cases h), h⟩
theorem IrS.out {O : Nat → Prop} (h : IrS w wr A C L) (ho : Out O wr w') (hO : ∀ g cur, wr.heap[g]? = some (.cells cur 34 (0, 0)) → ¬ O g) (hb : Below w.heap.size w w') : IrS w w' A C L := by
  obtain ⟨⟨us, h1, h2, h3⟩, h4, h5⟩ := h
  exact ⟨⟨us, ho.own h1 (fun g hg => by obtain ⟨cur, hc⟩ := own_at_block h1 hg; exact hO g cur hc), h2, h3⟩, h4, hb⟩
theorem IrS.below (h : IrS w wr A C L) (hb : Below wr.heap.size wr w') : IrS w w' A C L := h.out (below_out Non hb) (fun _ _ _ e => e) (h.bel.trans (hb.mono h.bel.size))
theorem IrS.rs (h : IrS w wr A C L) : RsIn wr A L.length L := by
  obtain ⟨⟨us, ho, h2, h3⟩, h4, h5⟩ := h
  refine ⟨rfl, ?_⟩
  rcases ho.2 with ⟨hv, h0⟩ | ⟨g, cap, cur, hv, r⟩
  · exact .inl h0
  · simp only [Value.slice.injEq] at hv
    obtain ⟨rfl, _, _⟩ := hv
    refine .inr ⟨g, 0, rfl, fun i p hp => ?_⟩
    have hi := (List.getElem?_eq_some_iff.1 hp).1
    obtain ⟨v, hv⟩ : ∃ v, us[i]? = some v := ⟨us[i]'(by rw [h2]; exact hi), by simp⟩
    obtain ⟨A', k', C', rfl, hd, hf, _⟩ := h3 i p v hp hv
    refine ⟨A', k', C', hf, hd.below h5, fun j u hu => ?_⟩
    have hj : j < 6 := by have := (List.getElem?_eq_some_iff.1 hu).1; simpa [rqL] using this
    have := ho.cells (g := g) rfl (i * 6 + j) u (by rw [rqC_get L us i p _ j hp hv hj]; exact hu)
    rw [Addr.add_mid] at this
    rw [show 0 + i * 6 + j = 0 + (i * 6 + j) by omega]
    exact this
/-- One more. -/
theorem IrS.more {p : Pq} {a1 : Option Addr} {n1 c1 : Nat} (h : IrS w wr A C L) (hd : QW w p (.slice a1 n1 c1)) (hl : L.length + 1 ≤ 1000) :
    ∃ a9 c9 w9, (Builtin.append_ #[43, 43] 43 #[.slice A L.length C, .slice (some ⟨wr.heap.size, 0, none⟩) 1 1]).run Try.prog (wr.alloc (.cells #[.int .u16 p.1.fl, .int .u16 p.1.kd, .int .u64 p.1.ck, .int .u64 p.1.ofs, .int .u32 p.1.ln, .slice a1 n1 c1] 34)) = .ok (.slice a9 (L.length + 1) c9) w9 ∧ IrS w w9 a9 c9 (L ++ [p]) ∧ Out (fun k => ∃ cur, wr.heap[k]? = some (.cells cur 34 (0, 0))) wr w9 := by
  obtain ⟨⟨us, h1, h2, h3⟩, h4, h5⟩ := h
  obtain ⟨a9, c9, w9, e9, o9, b9, g9⟩ := app_req h1 p.1 a1 n1 c1 (by omega)
  refine ⟨a9, c9, w9, e9, ⟨⟨us ++ [.slice a1 n1 c1], ?_, by simp [h2], fun i q u k1 k2 => ?_⟩, fun g hg => ?_, h5.trans (b9.below h5.size (fun k hk => h4 k hk))⟩, b9.mono (fun j e _ => own_at_block h1 e)⟩
  · rw [← rqC_snoc _ _ _ _ h2, List.length_append]
    exact o9
  · by_cases hlt : i < L.length
    · rw [List.getElem?_append_left hlt] at k1
      rw [List.getElem?_append_left (by rw [h2]; exact hlt)] at k2
      exact h3 i q u k1 k2
    · have hi : i = L.length := by have := (List.getElem?_eq_some_iff.1 k1).1; simp at this; omega
      subst hi
      simp at k1
      rw [← h2] at k2
      simp at k2
      subst k1; subst k2
      exact hd
  · rw [List.length_append] at hg
    rcases g9 with e | e
    · exact h4 g (by rw [← e]; exact hg)
    · have := e g hg; have := h5.size; omega
/-- One is left out: the row is made anew out of what lies ahead of it and behind it. -/
theorem IrS.left {k : Nat} (h : IrS w wr A C L) (hk : k < L.length) (hl : L.length ≤ 100) : ∃ g, A = some ⟨g, 0, none⟩ ∧ L.length ≤ C ∧
    ∃ a1 c1 w1, (Builtin.append_ #[43, 43] 43 #[.slice none 0 0, .slice (some ⟨g, 0, none⟩) k C]).run Try.prog wr = .ok (.slice a1 k c1) w1 ∧
    ∀ o c2, (k + 1 < L.length → o = (k + 1) * 6) → ∃ a9 c9 w9, (Builtin.append_ #[43, 43] 43 #[.slice a1 k c1, .slice (some ⟨g, o, none⟩) (L.length - (k + 1)) c2]).run Try.prog w1 = .ok (.slice a9 (L.length - 1) c9) w9 ∧ IrS w w9 a9 c9 (L.eraseIdx k) ∧ Below wr.heap.size wr w9 := by
  obtain ⟨⟨us, h1, h2, h3⟩, h4, h5⟩ := h
  have h1' := h1
  rcases h1.2 with ⟨hv, h0⟩ | ⟨g, cap, cur, hv, hB, hh, hnc, hcm, r⟩
  · omega
  · simp only [Value.slice.injEq] at hv
    obtain ⟨rfl, _, rfl⟩ := hv
    have hus : ∀ v ∈ us, ∃ A k C, v = .slice A k C := fun v hv => by
      obtain ⟨i, hi, rfl⟩ := List.mem_iff_getElem.1 hv
      obtain ⟨A', k', C', e, _⟩ := h3 i (L[i]'(by omega)) us[i] (by simp) (by simp)
      exact ⟨_, _, _, e⟩
    have hg : (Value.slice (some ⟨g, 0, none⟩) L.length C).ownBlock = some g := rfl
    have hcell := fun j u hu => h1.cells (g := g) hg j u hu
    have hlt := (h1.lt g hg).2
    have t1 := rqC_take L us k h2
    have t2 := rqC_drop L us (k + 1) h2
    obtain ⟨v1, w1, e1, o1, g1, b1⟩ := run_app (e := 34) (t := 43) (ty := 43) (size := 6) (bytes := 56) Try.under_reqs Try.zero_request rfl (by decide) (by decide) (World.ownsRow_nil wr 0 34 6) ⟨g, 0, none⟩ k C (rqC (L.take k) (us.take k)) (by rw [rqC_length _ _ (by simp [h2])]; simp; omega) (fun j u hu => by
      rw [← t1] at hu
      have hj := (List.getElem?_eq_some_iff.1 hu).1
      rw [List.getElem?_take_of_lt (by rw [List.length_take] at hj; omega)] at hu
      exact hcell j u hu) (rqC_one _ _ (by simp [h2]) (fun v hv => hus v (List.mem_of_mem_take hv))) (by omega)
    rw [Nat.zero_add, List.nil_append] at o1
    obtain ⟨a1, c1, rfl⟩ := own_slice o1
    have bl1 : Below wr.heap.size wr w1 := ⟨g1.os, g1.tape, g1.output, g1.size, fun j hj => g1.block j hj (by intro e; cases e)⟩
    have hb1 : ∀ x, (Value.slice a1 k c1).ownBlock = some x → wr.heap.size ≤ x := by
      rcases b1 with e | e
      · intro x hx; rw [e] at hx; cases hx
      · exact e
    refine ⟨g, rfl, hnc, a1, c1, w1, e1, fun o c2 ho => ?_⟩
    obtain ⟨v9, w9, e9, o9, g9, b9⟩ := run_app (e := 34) (t := 43) (ty := 43) (size := 6) (bytes := 56) Try.under_reqs Try.zero_request rfl (by decide) (by decide) o1 ⟨g, o, none⟩ (L.length - (k + 1)) c2 (rqC (L.drop (k + 1)) (us.drop (k + 1))) (by rw [rqC_length _ _ (by simp [h2])]; simp) (fun j u hu => by
      rw [← t2, List.getElem?_drop] at hu
      have hj := (List.getElem?_eq_some_iff.1 hu).1
      rw [rqC_length _ _ h2] at hj
      have hc := hcell _ u hu
      rw [Addr.add_mid] at hc ⊢
      rw [ho (by omega), bl1.cell (by exact hlt)]
      rw [Nat.zero_add] at hc
      exact hc) (rqC_one _ _ (by simp [h2]) (fun v hv => hus v (List.mem_of_mem_drop hv))) (by omega)
    obtain ⟨a9, c9, rfl⟩ := own_slice o9
    have hn : k + (L.length - (k + 1)) = L.length - 1 := by omega
    rw [hn] at e9 o9 b9
    have bl9 : Below wr.heap.size w1 w9 := ⟨g9.os, g9.tape, g9.output, g9.size, fun j hj => g9.block j (by have := bl1.size; omega) (fun e => by have := hb1 j e.symm; omega)⟩
    have hble : Below wr.heap.size wr w9 := bl1.trans bl9
    have hle : (L.eraseIdx k).length = L.length - 1 := by simp [List.length_eraseIdx, hk]
    have hap := rqC_app (L.take k) (L.drop (k + 1)) (us.take k) (us.drop (k + 1)) (by simp [h2])
    rw [← List.eraseIdx_eq_take_drop_succ, ← List.eraseIdx_eq_take_drop_succ] at hap
    rw [hap] at o9
    refine ⟨a9, c9, w9, e9, ⟨⟨us.eraseIdx k, by rw [hle]; exact o9, by simp [List.length_eraseIdx, h2, hk], fun i q u k1 k2 => ?_⟩, fun x hx => ?_, h5.trans (hble.mono h5.size)⟩, hble⟩
    · rw [List.getElem?_eraseIdx] at k1 k2
      split at k1 <;> rename_i hlt
      · rw [if_pos hlt] at k2; exact h3 i q u k1 k2
      · rw [if_neg hlt] at k2; exact h3 _ q u k1 k2
    · rw [hle] at hx
      rcases b9 with e | e
      · have := hb1 x (by rw [← e]; exact hx); have := h5.size; omega
      · have := e x hx; have := bl1.size; have := h5.size; omega
end
theorem no_pipe {w : World} {b : Nat} {l : List Pq} {g : Nat} {cur : Array Value} (h : PP All w b l) (hg : w.heap[g]? = some (.cells cur 34 (0, 0))) : g ≠ b := by
  obtain ⟨_, cs, vs, h2, _⟩ := h
  rintro rfl
  have e1 : w.heap[g]? = some (.cells cs.toArray 49 (0, 0)) := h2
  rw [hg] at e1
  simp only [Option.some.injEq, Obj.cells.injEq] at e1
  exact absurd e1.2.1 (by decide)
section
variable {w V : World} {b : Nat} {A : Option Addr} {C : Nat} {L : List Pq}
theorem pAdd_ir (p : Pq) (A1 : Option Addr) (k C1 : Nat) (hb : w.heap.size ≤ b) (hp : PP All V b L) (hr : IrS w V A C L) (hD : DIn w A1 k C1 p.2) (hk : k ≤ 100) (hf : p.1.Fits) :
    Calls Try.prog 13 #[.pointer (some ⟨b, 0, none⟩), .agg #[.int .u16 p.1.fl, .int .u16 p.1.kd, .int .u64 p.1.ck, .int .u64 p.1.ofs, .int .u32 p.1.ln, .slice A1 k C1]] V fun e w' => e = .returned (.bool (decide (L.length < 16))) ∧ PP All w' b (addL L p) ∧ IrS w w' A C L := by
  refine (pAdd_of p A1 k C1 hp (hD.below hr.bel) hk hf (fun _ _ => trivial)).mono ?_
  rintro e w' ⟨rfl, h1, h2⟩
  exact ⟨rfl, h1, hr.out h2 (fun g cur hg => no_pipe hp hg) (out_below hr.bel hb h2 hr.bel.size)⟩
theorem app_ir {L' : List Pq} {p : Pq} {a1 : Option Addr} {n1 c1 : Nat} (hp : PP All V b L') (hr : IrS w V A C L) (hd : QW w p (.slice a1 n1 c1)) (hl : L.length ≤ 100) :
    ∃ a9 c9 w9, (Builtin.append_ #[43, 43] 43 #[.slice A L.length C, .slice (some ⟨V.heap.size, 0, none⟩) 1 1]).run Try.prog (V.alloc (.cells #[.int .u16 p.1.fl, .int .u16 p.1.kd, .int .u64 p.1.ck, .int .u64 p.1.ofs, .int .u32 p.1.ln, .slice a1 n1 c1] 34)) = .ok (.slice a9 (L.length + 1) c9) w9 ∧ PP All w9 b L' ∧ IrS w w9 a9 c9 (L ++ [p]) := by
  obtain ⟨a9, c9, w9, e9, i9, o9⟩ := hr.more hd (by omega)
  refine ⟨a9, c9, w9, e9, hp.out o9 (fun ⟨cur, hc⟩ => no_pipe hp hc rfl) (fun c cur _ hc ⟨cur', hc'⟩ => ?_), i9⟩
  rw [hc] at hc'
  simp only [Option.some.injEq, Obj.cells.injEq] at hc'
  exact absurd hc'.2.1 (by decide)
theorem take_ir {κ : Nat} {p : Pq} (hb : w.heap.size ≤ b) (hp : PP All V b L) (hr : IrS w V A C L) (hl : L[κ]? = some p) : ∃ g A1 k1 C1, A = some ⟨g, 0, none⟩ ∧
    Calls Try.prog 15 #[.pointer (some ⟨b, 0, none⟩), .int .i64 (κ : Int)] V fun e w2 => ∃ A2 C2, e = .returned (.tuple #[.agg #[.int .u16 p.1.fl, .int .u16 p.1.kd, .int .u64 p.1.ck, .int .u64 p.1.ofs, .int .u32 p.1.ln, .slice A2 p.2.length C2], .bool true]) ∧ ∀ V2 q2, V2 = (w2.alloc (.cells #[.int .u16 p.1.fl, .int .u16 p.1.kd, .int .u64 p.1.ck, .int .u64 p.1.ofs, .int .u32 p.1.ln, .slice A2 p.2.length C2] 34)) → q2 = w2.heap.size → ∀ X, Below V2.heap.size V2 X → X.cell? ⟨q2, 0, none⟩ = some (.int .u16 p.1.fl) ∧ X.cell? ⟨q2, 1, none⟩ = some (.int .u16 p.1.kd) ∧ X.cell? ⟨q2, 2, none⟩ = some (.int .u64 p.1.ck) ∧ X.cell? ⟨q2, 3, none⟩ = some (.int .u64 p.1.ofs) ∧ X.cell? ⟨q2, 4, none⟩ = some (.int .u32 p.1.ln) ∧ X.cell? ⟨q2, 5, none⟩ = some (.slice A2 p.2.length C2) ∧ X.cell? ⟨g, κ * 6, none⟩ = some (.int .u16 p.1.fl) ∧ X.cell? ⟨g, κ * 6 + 1, none⟩ = some (.int .u16 p.1.kd) ∧ X.cell? ⟨g, κ * 6 + 2, none⟩ = some (.int .u64 p.1.ck) ∧ X.cell? ⟨g, κ * 6 + 3, none⟩ = some (.int .u64 p.1.ofs) ∧ X.cell? ⟨g, κ * 6 + 4, none⟩ = some (.int .u32 p.1.ln) ∧ X.cell? ⟨g, κ * 6 + 5, none⟩ = some (.slice A1 k1 C1) ∧
      Calls Try.prog 17 #[.agg #[.int .u16 p.1.fl, .int .u16 p.1.kd, .int .u64 p.1.ck, .int .u64 p.1.ofs, .int .u32 p.1.ln, .slice A2 p.2.length C2], .agg #[.int .u16 p.1.fl, .int .u16 p.1.kd, .int .u64 p.1.ck, .int .u64 p.1.ofs, .int .u32 p.1.ln, .slice A1 k1 C1]] X fun e w3 => e = .returned (.bool true) ∧ PP All w3 b (L.eraseIdx κ) ∧ IrS w w3 A C L ∧ Below V2.heap.size V2 w3 := by
  have hk : κ < L.length := (List.getElem?_eq_some_iff.1 hl).1
  obtain ⟨us, ho, h2, h3⟩ := hr.ow
  rcases ho.2 with ⟨hv, h0⟩ | ⟨g, cap, cur, hv, r⟩
  · omega
  · simp only [Value.slice.injEq] at hv
    obtain ⟨rfl, _, _⟩ := hv
    obtain ⟨v, hv⟩ : ∃ v, us[κ]? = some v := ⟨us[κ]'(by rw [h2]; exact hk), by simp⟩
    obtain ⟨A1, k1, C1, rfl, hd, hf, _⟩ := h3 κ p v hl hv
    refine ⟨g, A1, k1, C1, rfl, ?_⟩
    refine (pTake_one p hp hl).mono ?_
    rintro e w2 ⟨A2, C2, rfl, hq, h1, ho2⟩
    have hr2 : IrS w w2 (some ⟨g, 0, none⟩) C L := hr.out ho2 (fun g cur hg => no_pipe hp hg) (out_below hr.bel hb ho2 hr.bel.size)
    refine ⟨A2, C2, rfl, ?_⟩
    rintro V2 q2 rfl rfl X hX
    have h5 : Below w2.heap.size w2 (w2.alloc (.cells #[.int .u16 p.1.fl, .int .u16 p.1.kd, .int .u64 p.1.ck, .int .u64 p.1.ofs, .int .u32 p.1.ln, .slice A2 p.2.length C2] 34)) := (Below.refl _ _).alloc (Nat.le_refl _) _
    have hbk : Blk (w2.alloc (.cells #[.int .u16 p.1.fl, .int .u16 p.1.kd, .int .u64 p.1.ck, .int .u64 p.1.ofs, .int .u32 p.1.ln, .slice A2 p.2.length C2] 34)) w2.heap.size (rqL p.1 (.slice A2 p.2.length C2)) 34 := Blk.new _ _ _
    have hbX := hbk.below hX hbk.lt
    have h2X : Below w2.heap.size w2 X := h5.trans (hX.mono h5.size)
    have hrX := hr2.below h2X
    obtain ⟨us', ho', h2', h3'⟩ := hrX.ow
    have hc4 : ∀ (j : Nat) (u : Value), (rqL p.1 (.slice A1 k1 C1))[j]? = some u → X.cell? ⟨g, κ * 6 + j, none⟩ = some u := fun j u hu => by
      have hj : j < 6 := by have := (List.getElem?_eq_some_iff.1 hu).1; simpa [rqL] using this
      have c0 := ho.cells (g := g) rfl (κ * 6 + j) u (by rw [rqC_get L us κ p _ j hl hv hj]; exact hu)
      rw [Addr.add_mid, Nat.zero_add] at c0
      have hgb : g ≠ b := by obtain ⟨cur, hc⟩ := own_at_block ho (g := g) rfl; exact no_pipe hp hc
      have c2 := ho2.cell c0 hgb
      rw [h2X.cell (old_block c2)]; exact c2
    refine ⟨hbX.cell 0, hbX.cell 1, hbX.cell 2, hbX.cell 3, hbX.cell 4, hbX.cell 5, hc4 0 _ rfl, hc4 1 _ rfl, hc4 2 _ rfl, hc4 3 _ rfl, hc4 4 _ rfl, hc4 5 _ rfl, ?_⟩
    refine (same_of p.1 A2 p.2.length C2 A1 k1 C1 p.2 X ((hq.din.2.below h2X).1) ((hd.below hrX.bel).1)).mono ?_
    rintro e w3 ⟨rfl, h6⟩
    exact ⟨rfl, ((h1.below h2X).below h6), hrX.below h6, hX.trans (h6.mono hX.size)⟩
end
end Go.Proofs.Ythmhphjblglcoaa
