/- What comes in, in the walks' words: shapes, states, blocks, losses, zones. -/
import Derived.Test.YteokhkoaieibmaaRows
import Derived.Test.YteokhkoaieibmaaCkKnown
import Derived.Lib.SmallJoins
import Derived.ProofKit
import Derived.OpenShut
import Derived.Deep.Slices
namespace Go.Proofs.Yteokhkoaieibmaa
open Go.RowKit Go.ChangeShapes Go.WideShapes
set_option linter.unusedVariables false
set_option maxRecDepth 4000

section
variable {H : Type} {enc : TypeId × Value → H} {W : World}
abbrev Came (enc : TypeId × Value → H) (W : World) (t : TypeId) (v : Value) (d : DataW H) (p : List MemPlace) : Prop := DataW.Trod enc Try.prog W 0 (fun _ => true) true t v d p
def F64 (z : Int) : Prop := -9223372036854775808 ≤ z ∧ z < 9223372036854775808
theorem int_of {v : Value} {n : Nat} {y : DataW H × List MemPlace} (h : DataW.trod enc Try.prog W 0 (fun _ => true) true n 3 [v] = some y) : ∃ z, v = .int .i64 z ∧ F64 z := by
  obtain ⟨z, hv, _, hw⟩ := DataW.trod_int Try.underlying3 h
  have := bounds_i64 hw
  simp only [List.cons.injEq, and_true] at hv
  exact ⟨z, hv, by unfold F64; omega⟩
theorem u8_of {v : Value} {n : Nat} {y : DataW H × List MemPlace} (h : DataW.trod enc Try.prog W 0 (fun _ => true) true n 5 [v] = some y) : ∃ z, v = .int .u8 z ∧ Fits8 z := by
  obtain ⟨z, hv, _, hw⟩ := DataW.trod_int Try.underlying5 h
  have := bounds_u8 hw
  simp only [List.cons.injEq, and_true] at hv
  exact ⟨z, hv, by unfold Fits8; omega⟩
theorem slice_form {t e : TypeId} {v : Value} {n : Nat} {y : DataW H × List MemPlace} (ht : Try.prog.underlying t = some (.slice e)) (h : DataW.trod enc Try.prog W 0 (fun _ => true) true n t [v] = some y) : ∃ a l c, v = .slice a l c := by
  rcases DataW.trod_slice ht h with ⟨hcs, _⟩ | ⟨a, l, c, _, _, _, _, hcs, _⟩
  · simp only [List.cons.injEq, and_true] at hcs; exact ⟨_, _, _, hcs⟩
  · simp only [List.cons.injEq, and_true] at hcs; exact ⟨_, _, _, hcs⟩
theorem ints_cells {k : IntKind} {a : Option Addr} {len cap : Nat} {t e : TypeId} {fuel : Nat} {x : DataW H × List MemPlace} (ht : Try.prog.underlying t = some (.slice e)) (he : Try.prog.underlying e = some (.int k)) (hc : Try.prog.cellsOf e = 1)
    (h : DataW.trod enc Try.prog W 0 (fun _ => true) true fuel t [.slice a len cap] = some x) :
    (a = none ∧ len = 0 ∧ cap = 0) ∨ ∃ (b off : Nat) (zs : List Int), (len = 0 ∨ a = some ⟨b, off, none⟩) ∧ a ≠ none ∧ len ≤ cap ∧ cap ≤ maxLen ∧ zs.length = cap ∧ (∀ z ∈ zs, (Lit.int k z).wf = true) ∧ ∀ i, i < len → W.cell? ⟨b, off + i, none⟩ = some (.int k (zs.getD i 0)) := by
  rcases open_ints ht he hc h with ⟨hcs, _⟩ | ⟨x, l, c, zs, hcs, _, hl, hm, hz, _, hcell, hwz⟩
  · simp at hcs
    obtain ⟨rfl, rfl, rfl⟩ := hcs
    exact .inl ⟨rfl, rfl, rfl⟩
  · simp at hcs
    obtain ⟨rfl, rfl, rfl⟩ := hcs
    right
    have hz' : zs.length = cap := by simpa using hz
    by_cases h0 : len = 0
    · exact ⟨0, 0, zs, .inl h0, by simp, hl, hm, hz', hwz, fun i hi => by omega⟩
    · obtain ⟨b, off, spot⟩ := x
      have hc0 := hcell 0 (by omega)
      have hs : spot = none := by simpa [Addr.add] using World.cell?_spot hc0
      subst hs
      refine ⟨b, off, zs, .inr rfl, by simp, hl, hm, hz', hwz, fun i hi => ?_⟩
      have := hcell i (by omega)
      rwa [Addr.add_mid] at this
theorem bytes_of {a : Option Addr} {len cap : Nat} {fuel : Nat} {x : DataW H × List MemPlace} (h : DataW.trod enc Try.prog W 0 (fun _ => true) true fuel 39 [.slice a len cap] = some x) :
    ∃ zs, BIn W a len zs ∧ len ≤ cap ∧ (a = none → len = 0 ∧ cap = 0) := by
  rcases ints_cells Try.underlying39 Try.underlying5 (by kernel_rfl) h with ⟨rfl, rfl, rfl⟩ | ⟨b, off, zs, ha, hn, hl, hm, hz, hwz, hcell⟩
  · exact ⟨[], bin_none _, Nat.le_refl _, fun _ => ⟨rfl, rfl⟩⟩
  · refine ⟨zs.take len, ⟨by simp [hz]; omega, Nat.le_trans hl hm, fun z hz' => ?_, ?_⟩, hl, fun h => absurd h hn⟩
    · have := bounds_u8 (hwz z (List.mem_of_mem_take hz'))
      unfold Fits8
      omega
    · rcases ha with ha | ha
      · exact .inl ha
      · exact .inr ⟨b, off, ha, fun i hi => by rw [hcell i hi]; simp [List.getD, hi]⟩
theorem list_of {α : Type} {n : Nat} {p : Nat → α → Prop} (h : ∀ i, i < n → ∃ x, p i x) : ∃ l : List α, l.length = n ∧ ∀ i x, l[i]? = some x → p i x := by
  induction n with
  | zero => exact ⟨[], rfl, fun i x hx => by simp at hx⟩
  | succ n ih =>
    obtain ⟨l, hl, hp⟩ := ih (fun i hi => h i (by omega))
    obtain ⟨x, hx⟩ := h n (by omega)
    refine ⟨l ++ [x], by simp [hl], fun i y hy => ?_⟩
    by_cases hi : i < l.length
    · rw [List.getElem?_append_left hi] at hy
      exact hp i y hy
    · have hi' : i = l.length := by
        have := (List.getElem?_eq_some_iff.1 hy).1
        simp at this
        omega
      subst hi'
      simp at hy
      subst hy
      rw [hl]; exact hx
/-- A slice that came in: the cells of its elements. -/
theorem rows_of {t e : TypeId} {sz : Nat} {a : Option Addr} {len cap fuel : Nat} {y : DataW H × List MemPlace} (ht : Try.prog.underlying t = some (.slice e)) (hc : Try.prog.cellsOf e = sz) (hs0 : 0 < sz) (h : DataW.trod enc Try.prog W 0 (fun _ => true) true fuel t [.slice a len cap] = some y) :
    (len ≤ cap ∧ cap ≤ maxLen ∧ (a = none → len = 0 ∧ cap = 0)) ∧ (len = 0 ∨ ∃ b off, a = some ⟨b, off, none⟩ ∧ ∀ i, i < len → ∃ cs, cs.length = sz ∧ (∀ j, j < sz → W.cell? ⟨b, off + i * sz + j, none⟩ = cs[j]?) ∧ ∃ fuel' y', DataW.trod enc Try.prog W 0 (fun _ => true) true fuel' e cs = some y') := by
  rcases Deep.open_slice ht h with ⟨hcs, _⟩ | ⟨x, l, c, m, n, D, Pl, hcs, _, hl, hm, hmm, _, hx⟩
  · simp at hcs
    obtain ⟨rfl, rfl, rfl⟩ := hcs
    exact ⟨⟨Nat.le_refl _, Nat.zero_le _, fun _ => ⟨rfl, rfl⟩⟩, .inl rfl⟩
  · simp at hcs
    obtain ⟨rfl, rfl, rfl⟩ := hcs
    simp only [if_true] at hmm
    subst hmm
    rw [hc] at hx
    refine ⟨⟨hl, hm, fun h => by cases h⟩, ?_⟩
    by_cases h0 : len = 0
    · exact .inl h0
    · obtain ⟨b, off, spot⟩ := x
      obtain ⟨cs, h1, _⟩ := hx 0 (by omega)
      obtain ⟨_, hlen, hcell⟩ := World.cells?_some h1
      have hc0 := hcell 0 (by omega)
      rw [List.getElem?_eq_getElem (by omega)] at hc0
      have hs : spot = none := by simpa [Addr.add] using World.cell?_spot hc0
      subst hs
      refine .inr ⟨b, off, rfl, fun i hi => ?_⟩
      obtain ⟨cs', h1', h2'⟩ := hx i (by omega)
      obtain ⟨_, hlen', hcell'⟩ := World.cells?_some h1'
      refine ⟨cs', hlen', fun j hj => ?_, _, _, h2'⟩
      have := hcell' j (by omega)
      rw [Addr.add_mid, Addr.add_mid] at this
      exact this
def ShF (s : Sh) : Prop := F64 s.z ∧ F64 s.zb ∧ F64 s.b ∧ F64 s.r
theorem open_shape {r : Reach} {b0 : Nat} {v : Value} {d : DataW H} {p : List MemPlace} (hv : Value.okWide Try.prog W r b0 23 v) (h : Came enc W 23 v d p) : ∃ s : Sh, v = .agg (shL s).toArray ∧ ShF s := by
  obtain ⟨cs, rfl, hsz⟩ := okWide_struct Try.underlying23 hv
  obtain ⟨fuel, hf⟩ := h
  have hf' : DataW.trod enc Try.prog W 0 (fun _ => true) true fuel 23 cs.toList = some (d, p) := by simpa [Value.cells] using hf
  obtain ⟨xs, m, _, _, hlen, hxl, hf⟩ := DataW.trod_struct Try.underlying23 hf'
  have hc4 : Try.prog.cellsOf 23 = 4 := by kernel_rfl
  rw [hc4] at hlen
  obtain ⟨L, rfl⟩ : ∃ L : List Value, cs = L.toArray := ⟨cs.toList, by simp⟩
  simp only at hlen hf
  match L, hlen, xs, hxl with
  | [v0, v1, v2, v3], _, [x0, x1, x2, x3], _ =>
    have h0 := hf 0 _ rfl
    have h1 := hf 1 _ rfl
    have h2 := hf 2 _ rfl
    have h3 := hf 3 _ rfl
    simp only [List.getElem?_cons_zero, List.getElem?_cons_succ] at h0 h1 h2 h3
    obtain ⟨z, rfl, f0⟩ := int_of h0
    obtain ⟨zb, rfl, f1⟩ := int_of h1
    obtain ⟨b, rfl, f2⟩ := int_of h2
    obtain ⟨r, rfl, f3⟩ := int_of h3
    exact ⟨⟨z, zb, b, r⟩, rfl, f0, f1, f2, f3⟩
theorem u32_of {v : Value} {n : Nat} {y : DataW H × List MemPlace} (h : DataW.trod enc Try.prog W 0 (fun _ => true) true n 81 [v] = some y) : ∃ z, v = .int .u32 z ∧ Fits32 z := by
  obtain ⟨z, hv, _, hw⟩ := DataW.trod_int Try.underlying81 h
  have := bounds_u32 hw
  simp only [List.cons.injEq, and_true] at hv
  exact ⟨z, hv, by unfold Fits32; omega⟩
theorem u64_of {v : Value} {n : Nat} {y : DataW H × List MemPlace} (h : DataW.trod enc Try.prog W 0 (fun _ => true) true n 24 [v] = some y) : ∃ z, v = .int .u64 z ∧ FitsU z := by
  obtain ⟨z, hv, _, hw⟩ := DataW.trod_int Try.underlying24 h
  have := bounds_u64 hw
  simp only [List.cons.injEq, and_true] at hv
  exact ⟨z, hv, by unfold FitsU; omega⟩
theorem addr_of {cs : List Value} {n : Nat} {y : DataW H × List MemPlace} (h : DataW.trod enc Try.prog W 0 (fun _ => true) true n 67 cs = some y) : ∃ s : Pr, cs = [.int .i64 s.1, .int .i64 s.2] ∧ FitsS s := by
  obtain ⟨xs, m, _, _, hlen, hxl, hf⟩ := DataW.trod_struct Try.underlying67 h
  have hc2 : Try.prog.cellsOf 67 = 2 := by kernel_rfl
  rw [hc2] at hlen
  match cs, hlen, xs, hxl with
  | [v0, v1], _, [x0, x1], _ =>
    have h0 := hf 0 _ rfl
    have h1 := hf 1 _ rfl
    simp only [List.getElem?_cons_zero, List.getElem?_cons_succ] at h0 h1
    obtain ⟨a, rfl, f0⟩ := int_of h0
    obtain ⟨b, rfl, f1⟩ := int_of h1
    exact ⟨(a, b), rfl, f0, f1⟩
theorem place_of {cs : List Value} {n : Nat} {y : DataW H × List MemPlace} (h : DataW.trod enc Try.prog W 0 (fun _ => true) true n 83 cs = some y) : ∃ p : Pl, cs = plL p ∧ FitsP p := by
  obtain ⟨xs, m, _, _, hlen, hxl, hf⟩ := DataW.trod_struct Try.underlying83 h
  have hc4 : Try.prog.cellsOf 83 = 4 := by kernel_rfl
  rw [hc4] at hlen
  match cs, hlen, xs, hxl with
  | [v0, v1, v2, v3], _, [x0, x1, x2], _ =>
    have h0 := hf 0 _ rfl
    have h1 := hf 1 _ rfl
    have h2 := hf 2 _ rfl
    simp only [List.getElem?_cons_zero, List.getElem?_cons_succ] at h0 h1 h2
    obtain ⟨a, rfl, f0⟩ := u32_of h0
    obtain ⟨b, rfl, f1⟩ := u64_of h1
    obtain ⟨s, hs, f2⟩ := addr_of (cs := [v2, v3]) h2
    simp only [List.cons.injEq, and_true] at hs
    obtain ⟨rfl, rfl⟩ := hs
    exact ⟨((a, b), s), rfl, ⟨f0, f1⟩, f2⟩
/-- Places that came in. -/
theorem places_of {a : Option Addr} {len cap fuel : Nat} {y : DataW H × List MemPlace} (h : DataW.trod enc Try.prog W 0 (fun _ => true) true fuel 25 [.slice a len cap] = some y) : ∃ ps, KIn W a len ps ∧ len ≤ cap ∧ (a = none → len = 0 ∧ cap = 0) := by
  obtain ⟨⟨h1, h2, h3⟩, h4⟩ := rows_of Try.underlying25 (sz := 4) (by kernel_rfl) (by decide) h
  rcases h4 with rfl | ⟨b, off, rfl, hc⟩
  · exact ⟨[], ⟨rfl, Nat.zero_le _, by simp, .inl rfl⟩, h1, h3⟩
  · obtain ⟨ps, hl, hp⟩ := list_of (n := len) (p := fun i (x : Pl) => (∀ (j : Nat) (v : Value), (plL x)[j]? = some v → W.cell? ⟨b, off + i * 4 + j, none⟩ = some v) ∧ FitsP x) (fun i hi => by
      obtain ⟨cs, e1, e2, f, y', e3⟩ := hc i hi
      obtain ⟨x, rfl, hf⟩ := place_of e3
      exact ⟨x, fun j v hv => by rw [e2 j (by have := (List.getElem?_eq_some_iff.1 hv).1; simpa [plL] using this)]; exact hv, hf⟩)
    refine ⟨ps, ⟨hl, Nat.le_trans h1 h2, fun x hx => ?_, .inr ⟨b, off, rfl, fun i x hx => (hp i x hx).1⟩⟩, h1, h3⟩
    obtain ⟨i, hi⟩ := List.getElem?_of_mem hx
    exact (hp i x hi).2
theorem state_of {cs : List Value} {n : Nat} {y : DataW H × List MemPlace} (h : DataW.trod enc Try.prog W 0 (fun _ => true) true n 27 cs = some y) : ∃ (seq : Int) (A : Option Addr) (N C : Nat) (xs : List Pl), cs = [.int .u64 seq, .slice A N C] ∧ FitsU seq ∧ KIn W A N xs ∧ N ≤ C ∧ (A = none → N = 0 ∧ C = 0) := by
  obtain ⟨xs, m, _, _, hlen, hxl, hf⟩ := DataW.trod_struct Try.underlying27 h
  have hc2 : Try.prog.cellsOf 27 = 2 := by kernel_rfl
  rw [hc2] at hlen
  match cs, hlen, xs, hxl with
  | [v0, v1], _, [x0, x1], _ =>
    have h0 := hf 0 _ rfl
    have h1 := hf 1 _ rfl
    simp only [List.getElem?_cons_zero, List.getElem?_cons_succ] at h0 h1
    obtain ⟨seq, rfl, f0⟩ := u64_of h0
    obtain ⟨A, N, C, rfl⟩ := slice_form Try.underlying25 h1
    obtain ⟨ps, k1, k2, k3⟩ := places_of h1
    exact ⟨seq, A, N, C, ps, rfl, f0, k1, k2, k3⟩
theorem open_state {r : Reach} {b0 : Nat} {v : Value} {d : DataW H} {p : List MemPlace} (hv : Value.okWide Try.prog W r b0 27 v) (h : Came enc W 27 v d p) : ∃ (seq : Int) (A : Option Addr) (N C : Nat) (xs : List Pl), v = .agg #[.int .u64 seq, .slice A N C] ∧ FitsU seq ∧ KIn W A N xs ∧ N ≤ C ∧ (A = none → N = 0 ∧ C = 0) := by
  obtain ⟨cs, rfl, hsz⟩ := okWide_struct Try.underlying27 hv
  obtain ⟨fuel, hf⟩ := h
  have hf' : DataW.trod enc Try.prog W 0 (fun _ => true) true fuel 27 cs.toList = some (d, p) := by simpa [Value.cells] using hf
  obtain ⟨seq, A, N, C, xs, h1, h2⟩ := state_of hf'
  obtain ⟨L, rfl⟩ : ∃ L : List Value, cs = L.toArray := ⟨cs.toList, by simp⟩
  simp only at h1
  subst h1
  exact ⟨seq, A, N, C, xs, rfl, h2⟩
def BkRaw (W : World) (v : Value) (D : List Int) : Prop := ∃ A L C, v = .slice A L C ∧ BIn W A L D ∧ (A = none → L = 0 ∧ C = 0) ∧ L ≤ C
def BsRaw (W : World) (a : Option Addr) (n : Nat) (bs : List (List Int)) : Prop :=
  bs.length = n ∧ n ≤ maxLen ∧ (n = 0 ∨ ∃ b off, a = some ⟨b, off, none⟩ ∧ ∀ (i : Nat) (D : List Int), bs[i]? = some D → ∃ v, W.cell? ⟨b, off + i, none⟩ = some v ∧ BkRaw W v D)
theorem blocks_of {a : Option Addr} {len cap fuel : Nat} {y : DataW H × List MemPlace} (h : DataW.trod enc Try.prog W 0 (fun _ => true) true fuel 28 [.slice a len cap] = some y) : ∃ bs, BsRaw W a len bs := by
  obtain ⟨⟨h1, h2, h3⟩, h4⟩ := rows_of Try.underlying28 (sz := 1) (by kernel_rfl) (by decide) h
  rcases h4 with rfl | ⟨b, off, rfl, hc⟩
  · exact ⟨[], rfl, Nat.zero_le _, .inl rfl⟩
  · obtain ⟨bs, hl, hp⟩ := list_of (n := len) (p := fun i (D : List Int) => ∃ v, W.cell? ⟨b, off + i, none⟩ = some v ∧ BkRaw W v D) (fun i hi => by
      obtain ⟨cs, e1, e2, f, y', e3⟩ := hc i hi
      match cs, e1 with
      | [v], _ =>
        obtain ⟨A, L, C, rfl⟩ := slice_form Try.underlying39 e3
        obtain ⟨D, hD, hLC, hDn⟩ := bytes_of e3
        refine ⟨D, .slice A L C, ?_, A, L, C, rfl, hD, hDn, hLC⟩
        have := e2 0 (by decide)
        simpa using this)
    exact ⟨bs, hl, Nat.le_trans h1 h2, .inr ⟨b, off, rfl, fun i D hi => hp i D hi⟩⟩
/-- States that came in. -/
abbrev St := Int × List Pl
def StsIn (W : World) (a : Option Addr) (n : Nat) (l : List St) : Prop :=
  l.length = n ∧ n ≤ maxLen ∧ (n = 0 ∨ ∃ b off, a = some ⟨b, off, none⟩ ∧ ∀ (i : Nat) (x : St), l[i]? = some x → ∃ A N C, W.cell? ⟨b, off + i * 2, none⟩ = some (.int .u64 x.1) ∧ W.cell? ⟨b, off + i * 2 + 1, none⟩ = some (.slice A N C) ∧ FitsU x.1 ∧ KIn W A N x.2 ∧ N ≤ C)
theorem open_states {a : Option Addr} {len cap : Nat} {d : DataW H} {p : List MemPlace} (h : Came enc W 72 (.slice a len cap) d p) : ∃ l, StsIn W a len l := by
  obtain ⟨fuel, hf⟩ := h
  have hf' : DataW.trod enc Try.prog W 0 (fun _ => true) true fuel 72 [.slice a len cap] = some (d, p) := by simpa [Value.cells] using hf
  obtain ⟨⟨h1, h2, h3⟩, h4⟩ := rows_of Try.underlying72 (sz := 2) (by kernel_rfl) (by decide) hf'
  rcases h4 with rfl | ⟨b, off, rfl, hc⟩
  · exact ⟨[], rfl, Nat.zero_le _, .inl rfl⟩
  · obtain ⟨l, hl, hp⟩ := list_of (n := len) (p := fun i (x : St) => ∃ A N C, W.cell? ⟨b, off + i * 2, none⟩ = some (.int .u64 x.1) ∧ W.cell? ⟨b, off + i * 2 + 1, none⟩ = some (.slice A N C) ∧ FitsU x.1 ∧ KIn W A N x.2 ∧ N ≤ C) (fun i hi => by
      obtain ⟨cs, e1, e2, f, y', e3⟩ := hc i hi
      obtain ⟨seq, A, N, C, xs, rfl, h1, h2, h3, _⟩ := state_of e3
      exact ⟨(seq, xs), A, N, C, e2 0 (by decide), e2 1 (by decide), h1, h2, h3⟩)
    exact ⟨l, hl, Nat.le_trans h1 h2, .inr ⟨b, off, rfl, hp⟩⟩
theorem loss_of {cs : List Value} {n : Nat} {y : DataW H × List MemPlace} (h : DataW.trod enc Try.prog W 0 (fun _ => true) true n 112 cs = some y) : ∃ k t, cs = [.int .i64 k, .int .i64 t] ∧ F64 k := by
  obtain ⟨xs, m, _, _, hlen, hxl, hf⟩ := DataW.trod_struct Try.underlying112 h
  have hc2 : Try.prog.cellsOf 112 = 2 := by kernel_rfl
  rw [hc2] at hlen
  match cs, hlen, xs, hxl with
  | [v0, v1], _, [x0, x1], _ =>
    have h0 := hf 0 _ rfl
    have h1 := hf 1 _ rfl
    simp only [List.getElem?_cons_zero, List.getElem?_cons_succ] at h0 h1
    obtain ⟨k, rfl, f0⟩ := int_of h0
    obtain ⟨t, rfl, f1⟩ := int_of h1
    exact ⟨k, t, rfl, f0⟩
theorem losses_of {a : Option Addr} {len cap fuel : Nat} {y : DataW H × List MemPlace} (h : DataW.trod enc Try.prog W 0 (fun _ => true) true fuel 63 [.slice a len cap] = some y) : ∃ ls, LsIn W a len ls := by
  obtain ⟨⟨h1, h2, h3⟩, h4⟩ := rows_of Try.underlying63 (sz := 2) (by kernel_rfl) (by decide) h
  rcases h4 with rfl | ⟨b, off, rfl, hc⟩
  · exact ⟨[], rfl, Nat.zero_le _, by simp, .inl rfl⟩
  · obtain ⟨ls, hl, hp⟩ := list_of (n := len) (p := fun i (k : Int × Int) => (W.cell? ⟨b, off + i * 2, none⟩ = some (.int .i64 k.1) ∧ W.cell? ⟨b, off + i * 2 + 1, none⟩ = some (.int .i64 k.2)) ∧ F64 k.1) (fun i hi => by
      obtain ⟨cs, e1, e2, f, y', e3⟩ := hc i hi
      obtain ⟨k, t, rfl, hk⟩ := loss_of e3
      exact ⟨(k, t), ⟨e2 0 (by decide), e2 1 (by decide)⟩, hk⟩)
    refine ⟨ls, hl, Nat.le_trans h1 h2, fun k hk => ?_, .inr ⟨b, off, rfl, fun i k hi => (hp i k hi).1⟩⟩
    obtain ⟨i, hi⟩ := List.getElem?_of_mem hk
    exact (hp i k hi).2.2
theorem open_losses {a : Option Addr} {len cap : Nat} {d : DataW H} {p : List MemPlace} (h : Came enc W 63 (.slice a len cap) d p) : ∃ ls, LsIn W a len ls := by
  obtain ⟨fuel, hf⟩ := h
  have hf' : DataW.trod enc Try.prog W 0 (fun _ => true) true fuel 63 [.slice a len cap] = some (d, p) := by simpa [Value.cells] using hf
  exact losses_of hf'
def ZsRaw (W : World) (a : Option Addr) (n : Nat) (zs : List Zn) : Prop :=
  zs.length = n ∧ n ≤ maxLen ∧ (n = 0 ∨ ∃ b off, a = some ⟨b, off, none⟩ ∧ ∀ (i : Nat) (z : Zn), zs[i]? = some z → ∃ A L C, W.cell? ⟨b, off + i * 2, none⟩ = some (.slice A L C) ∧ W.cell? ⟨b, off + i * 2 + 1, none⟩ = some (.int .i64 z.2) ∧ BsRaw W A L z.1)
def ZnF (zs : List Zn) : Prop := ∀ z ∈ zs, F64 z.2
theorem zone_of {cs : List Value} {n : Nat} {y : DataW H × List MemPlace} (h : DataW.trod enc Try.prog W 0 (fun _ => true) true n 76 cs = some y) : ∃ (z : Zn) (A : Option Addr) (L C : Nat), cs = [.slice A L C, .int .i64 z.2] ∧ BsRaw W A L z.1 ∧ F64 z.2 := by
  obtain ⟨xs, m, _, _, hlen, hxl, hf⟩ := DataW.trod_struct Try.underlying76 h
  have hc2 : Try.prog.cellsOf 76 = 2 := by kernel_rfl
  rw [hc2] at hlen
  match cs, hlen, xs, hxl with
  | [v0, v1], _, [x0, x1], _ =>
    have h0 := hf 0 _ rfl
    have h1 := hf 1 _ rfl
    simp only [List.getElem?_cons_zero, List.getElem?_cons_succ] at h0 h1
    obtain ⟨A, L, C, rfl⟩ := slice_form Try.underlying28 h0
    obtain ⟨bs, hbs⟩ := blocks_of h0
    obtain ⟨t, rfl, f1⟩ := int_of h1
    exact ⟨(bs, t), A, L, C, rfl, hbs, f1⟩
theorem open_zones {a : Option Addr} {len cap : Nat} {d : DataW H} {p : List MemPlace} (h : Came enc W 47 (.slice a len cap) d p) : ∃ zs, ZsRaw W a len zs ∧ ZnF zs := by
  obtain ⟨fuel, hf⟩ := h
  have hf' : DataW.trod enc Try.prog W 0 (fun _ => true) true fuel 47 [.slice a len cap] = some (d, p) := by simpa [Value.cells] using hf
  obtain ⟨⟨h1, h2, h3⟩, h4⟩ := rows_of Try.underlying47 (sz := 2) (by kernel_rfl) (by decide) hf'
  rcases h4 with rfl | ⟨b, off, rfl, hc⟩
  · exact ⟨[], ⟨rfl, Nat.zero_le _, .inl rfl⟩, fun z h => by simp at h⟩
  · obtain ⟨zs, hl, hp⟩ := list_of (n := len) (p := fun i (z : Zn) => (∃ A L C, W.cell? ⟨b, off + i * 2, none⟩ = some (.slice A L C) ∧ W.cell? ⟨b, off + i * 2 + 1, none⟩ = some (.int .i64 z.2) ∧ BsRaw W A L z.1) ∧ F64 z.2) (fun i hi => by
      obtain ⟨cs, e1, e2, f, y', e3⟩ := hc i hi
      obtain ⟨z, A, L, C, rfl, hb, hF⟩ := zone_of e3
      exact ⟨z, ⟨A, L, C, e2 0 (by decide), e2 1 (by decide), hb⟩, hF⟩)
    refine ⟨zs, ⟨hl, Nat.le_trans h1 h2, .inr ⟨b, off, rfl, fun i z hi => (hp i z hi).1⟩⟩, fun z hz => ?_⟩
    obtain ⟨i, hi⟩ := List.getElem?_of_mem hz
    exact (hp i z hi).2
end
end Go.Proofs.Yteokhkoaieibmaa
