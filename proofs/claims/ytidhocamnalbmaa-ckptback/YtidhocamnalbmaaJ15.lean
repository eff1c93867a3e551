/- Texts of this seat, one behind the other: CkOpen, CkBk. -/
import Derived.Test.YtidhocamnalbmaaRows
import Derived.Test.YtidhocamnalbmaaJ14
import Derived.Lib.SmallJoins
import Derived.ProofKit
import Derived.OpenShut
import Derived.Deep.Slices
import Derived.OneCell
/- What comes in, in the walks' words: shapes, states, blocks, losses, zones. -/
namespace Go.Proofs.Ytidhocamnalbmaa
open Go.RowKit Go.ChangeShapes Go.WideShapes
set_option linter.unusedVariables false
set_option maxRecDepth 4000

section
variable {H : Type} {enc : TypeId × Value → H} {W : World}
abbrev Came (enc : TypeId × Value → H) (W : World) (t : TypeId) (v : Value) (d : DataW H) (p : List MemPlace) : Prop := DataW.Trod enc Try.prog W 0 (fun _ => true) true t v d p
def F64 (z : Int) : Prop := -9223372036854775808 ≤ z ∧ z < 9223372036854775808
theorem int_of {v : Value} {n : Nat} {y : DataW H × List MemPlace} (h : DataW.trod enc Try.prog W 0 (fun _ => true) true n 3 [v] = some y) : ∃ z, v = .int .i64 z ∧ F64 z := by
  obtain ⟨z, hv, _, hw⟩ := DataW.trod_int Try.underlying3 h
  have := bounds_i64 hw
  simp only [List.cons.injEq, and_true] at hv
  exact ⟨z, hv, by unfold F64; omega⟩
theorem u8_of {v : Value} {n : Nat} {y : DataW H × List MemPlace} (h : DataW.trod enc Try.prog W 0 (fun _ => true) true n 5 [v] = some y) : ∃ z, v = .int .u8 z ∧ Fits8 z := by
  obtain ⟨z, hv, _, hw⟩ := DataW.trod_int Try.underlying5 h
  have := bounds_u8 hw
  simp only [List.cons.injEq, and_true] at hv
  exact ⟨z, hv, by unfold Fits8; omega⟩
theorem slice_form {t e : TypeId} {v : Value} {n : Nat} {y : DataW H × List MemPlace} (ht : Try.prog.underlying t = some (.slice e)) (h : DataW.trod enc Try.prog W 0 (fun _ => true) true n t [v] = some y) : ∃ a l c, v = .slice a l c := by
  rcases DataW.trod_slice ht h with ⟨hcs, _⟩ | ⟨a, l, c, _, _, _, _, hcs, _⟩
  · simp only [List.cons.injEq, and_true] at hcs; exact ⟨_, _, _, hcs⟩
  · simp only [List.cons.injEq, and_true] at hcs; exact ⟨_, _, _, hcs⟩
theorem ints_cells {k : IntKind} {a : Option Addr} {len cap : Nat} {t e : TypeId} {fuel : Nat} {x : DataW H × List MemPlace} (ht : Try.prog.underlying t = some (.slice e)) (he : Try.prog.underlying e = some (.int k)) (hc : Try.prog.cellsOf e = 1)
    (h : DataW.trod enc Try.prog W 0 (fun _ => true) true fuel t [.slice a len cap] = some x) :
    (a = none ∧ len = 0 ∧ cap = 0) ∨ ∃ (b off : Nat) (zs : List Int), (len = 0 ∨ a = some ⟨b, off, none⟩) ∧ a ≠ none ∧ len ≤ cap ∧ cap ≤ maxLen ∧ zs.length = cap ∧ (∀ z ∈ zs, (Lit.int k z).wf = true) ∧ ∀ i, i < len → W.cell? ⟨b, off + i, none⟩ = some (.int k (zs.getD i 0)) := by
  rcases open_ints ht he hc h with ⟨hcs, _⟩ | ⟨x, l, c, zs, hcs, _, hl, hm, hz, _, hcell, hwz⟩
  · simp at hcs
    obtain ⟨rfl, rfl, rfl⟩ := hcs
    exact .inl ⟨rfl, rfl, rfl⟩
  · simp at hcs
    obtain ⟨rfl, rfl, rfl⟩ := hcs
    right
    have hz' : zs.length = cap := by simpa using hz
    by_cases h0 : len = 0
    · exact ⟨0, 0, zs, .inl h0, by simp, hl, hm, hz', hwz, fun i hi => by omega⟩
    · obtain ⟨b, off, spot⟩ := x
      have hc0 := hcell 0 (by omega)
      have hs : spot = none := by simpa [Addr.add] using World.cell?_spot hc0
      subst hs
      refine ⟨b, off, zs, .inr rfl, by simp, hl, hm, hz', hwz, fun i hi => ?_⟩
      have := hcell i (by omega)
      rwa [Addr.add_mid] at this
theorem bytes_of {a : Option Addr} {len cap : Nat} {fuel : Nat} {x : DataW H × List MemPlace} (h : DataW.trod enc Try.prog W 0 (fun _ => true) true fuel 37 [.slice a len cap] = some x) :
    ∃ zs, BIn W a len zs ∧ len ≤ cap ∧ (a = none → len = 0 ∧ cap = 0) := by
  rcases ints_cells Try.underlying37 Try.underlying5 (by kernel_rfl) h with ⟨rfl, rfl, rfl⟩ | ⟨b, off, zs, ha, hn, hl, hm, hz, hwz, hcell⟩
  · exact ⟨[], bin_none _, Nat.le_refl _, fun _ => ⟨rfl, rfl⟩⟩
  · refine ⟨zs.take len, ⟨by simp [hz]; omega, Nat.le_trans hl hm, fun z hz' => ?_, ?_⟩, hl, fun h => absurd h hn⟩
    · have := bounds_u8 (hwz z (List.mem_of_mem_take hz'))
      unfold Fits8
      omega
    · rcases ha with ha | ha
      · exact .inl ha
      · exact .inr ⟨b, off, ha, fun i hi => by rw [hcell i hi]; simp [List.getD, hi]⟩
theorem list_of {α : Type} {n : Nat} {p : Nat → α → Prop} (h : ∀ i, i < n → ∃ x, p i x) : ∃ l : List α, l.length = n ∧ ∀ i x, l[i]? = some x → p i x := by
  induction n with
  | zero => exact ⟨[], rfl, fun i x hx => by simp at hx⟩
  | succ n ih =>
    obtain ⟨l, hl, hp⟩ := ih (fun i hi => h i (by omega))
    obtain ⟨x, hx⟩ := h n (by omega)
    refine ⟨l ++ [x], by simp [hl], fun i y hy => ?_⟩
    by_cases hi : i < l.length
    · rw [List.getElem?_append_left hi] at hy
      exact hp i y hy
    · have hi' : i = l.length := by
        have := (List.getElem?_eq_some_iff.1 hy).1
        simp at this
        omega
      subst hi'
      simp at hy
      subst hy
      rw [hl]; exact hx
/-- A slice that came in: the cells of its elements. -/
theorem rows_of {t e : TypeId} {sz : Nat} {a : Option Addr} {len cap fuel : Nat} {y : DataW H × List MemPlace} (ht : Try.prog.underlying t = some (.slice e)) (hc : Try.prog.cellsOf e = sz) (hs0 : 0 < sz) (h : DataW.trod enc Try.prog W 0 (fun _ => true) true fuel t [.slice a len cap] = some y) :
    (len ≤ cap ∧ cap ≤ maxLen ∧ (a = none → len = 0 ∧ cap = 0)) ∧ (len = 0 ∨ ∃ b off, a = some ⟨b, off, none⟩ ∧ ∀ i, i < len → ∃ cs, cs.length = sz ∧ (∀ j, j < sz → W.cell? ⟨b, off + i * sz + j, none⟩ = cs[j]?) ∧ ∃ fuel' y', DataW.trod enc Try.prog W 0 (fun _ => true) true fuel' e cs = some y') := by
  rcases Deep.open_slice ht h with ⟨hcs, _⟩ | ⟨x, l, c, m, n, D, Pl, hcs, _, hl, hm, hmm, _, hx⟩
  · simp at hcs
    obtain ⟨rfl, rfl, rfl⟩ := hcs
    exact ⟨⟨Nat.le_refl _, Nat.zero_le _, fun _ => ⟨rfl, rfl⟩⟩, .inl rfl⟩
  · simp at hcs
    obtain ⟨rfl, rfl, rfl⟩ := hcs
    simp only [if_true] at hmm
    subst hmm
    rw [hc] at hx
    refine ⟨⟨hl, hm, fun h => by cases h⟩, ?_⟩
    by_cases h0 : len = 0
    · exact .inl h0
    · obtain ⟨b, off, spot⟩ := x
      obtain ⟨cs, h1, _⟩ := hx 0 (by omega)
      obtain ⟨_, hlen, hcell⟩ := World.cells?_some h1
      have hc0 := hcell 0 (by omega)
      rw [List.getElem?_eq_getElem (by omega)] at hc0
      have hs : spot = none := by simpa [Addr.add] using World.cell?_spot hc0
      subst hs
      refine .inr ⟨b, off, rfl, fun i hi => ?_⟩
      obtain ⟨cs', h1', h2'⟩ := hx i (by omega)
      obtain ⟨_, hlen', hcell'⟩ := World.cells?_some h1'
      refine ⟨cs', hlen', fun j hj => ?_, _, _, h2'⟩
      have := hcell' j (by omega)
      rw [Addr.add_mid, Addr.add_mid] at this
      exact this
def ShF (s : Sh) : Prop := F64 s.z ∧ F64 s.zb ∧ F64 s.b ∧ F64 s.r
theorem open_shape {r : Reach} {b0 : Nat} {v : Value} {d : DataW H} {p : List MemPlace} (hv : Value.okWide Try.prog W r b0 23 v) (h : Came enc W 23 v d p) : ∃ s : Sh, v = .agg (shL s).toArray ∧ ShF s := by
  obtain ⟨cs, rfl, hsz⟩ := okWide_struct Try.underlying23 hv
  obtain ⟨fuel, hf⟩ := h
  have hf' : DataW.trod enc Try.prog W 0 (fun _ => true) true fuel 23 cs.toList = some (d, p) := by simpa [Value.cells] using hf
  obtain ⟨xs, m, _, _, hlen, hxl, hf⟩ := DataW.trod_struct Try.underlying23 hf'
  have hc4 : Try.prog.cellsOf 23 = 4 := by kernel_rfl
  rw [hc4] at hlen
  obtain ⟨L, rfl⟩ : ∃ L : List Value, cs = L.toArray := ⟨cs.toList, by simp⟩
  simp only at hlen hf
  match L, hlen, xs, hxl with
  | [v0, v1, v2, v3], _, [x0, x1, x2, x3], _ =>
    have h0 := hf 0 _ rfl
    have h1 := hf 1 _ rfl
    have h2 := hf 2 _ rfl
    have h3 := hf 3 _ rfl
    simp only [List.getElem?_cons_zero, List.getElem?_cons_succ] at h0 h1 h2 h3
    obtain ⟨z, rfl, f0⟩ := int_of h0
    obtain ⟨zb, rfl, f1⟩ := int_of h1
    obtain ⟨b, rfl, f2⟩ := int_of h2
    obtain ⟨r, rfl, f3⟩ := int_of h3
    exact ⟨⟨z, zb, b, r⟩, rfl, f0, f1, f2, f3⟩
theorem u32_of {v : Value} {n : Nat} {y : DataW H × List MemPlace} (h : DataW.trod enc Try.prog W 0 (fun _ => true) true n 50 [v] = some y) : ∃ z, v = .int .u32 z ∧ Fits32 z := by
  obtain ⟨z, hv, _, hw⟩ := DataW.trod_int Try.underlying50 h
  have := bounds_u32 hw
  simp only [List.cons.injEq, and_true] at hv
  exact ⟨z, hv, by unfold Fits32; omega⟩
theorem u64_of {v : Value} {n : Nat} {y : DataW H × List MemPlace} (h : DataW.trod enc Try.prog W 0 (fun _ => true) true n 24 [v] = some y) : ∃ z, v = .int .u64 z ∧ FitsU z := by
  obtain ⟨z, hv, _, hw⟩ := DataW.trod_int Try.underlying24 h
  have := bounds_u64 hw
  simp only [List.cons.injEq, and_true] at hv
  exact ⟨z, hv, by unfold FitsU; omega⟩
theorem addr_of {cs : List Value} {n : Nat} {y : DataW H × List MemPlace} (h : DataW.trod enc Try.prog W 0 (fun _ => true) true n 52 cs = some y) : ∃ s : Pr, cs = [.int .i64 s.1, .int .i64 s.2] ∧ FitsS s := by
  obtain ⟨xs, m, _, _, hlen, hxl, hf⟩ := DataW.trod_struct Try.underlying52 h
  have hc2 : Try.prog.cellsOf 52 = 2 := by kernel_rfl
  rw [hc2] at hlen
  match cs, hlen, xs, hxl with
  | [v0, v1], _, [x0, x1], _ =>
    have h0 := hf 0 _ rfl
    have h1 := hf 1 _ rfl
    simp only [List.getElem?_cons_zero, List.getElem?_cons_succ] at h0 h1
    obtain ⟨a, rfl, f0⟩ := int_of h0
    obtain ⟨b, rfl, f1⟩ := int_of h1
    exact ⟨(a, b), rfl, f0, f1⟩
theorem place_of {cs : List Value} {n : Nat} {y : DataW H × List MemPlace} (h : DataW.trod enc Try.prog W 0 (fun _ => true) true n 54 cs = some y) : ∃ p : Pl, cs = plL p ∧ FitsP p := by
  obtain ⟨xs, m, _, _, hlen, hxl, hf⟩ := DataW.trod_struct Try.underlying54 h
  have hc4 : Try.prog.cellsOf 54 = 4 := by kernel_rfl
  rw [hc4] at hlen
  match cs, hlen, xs, hxl with
  | [v0, v1, v2, v3], _, [x0, x1, x2], _ =>
    have h0 := hf 0 _ rfl
    have h1 := hf 1 _ rfl
    have h2 := hf 2 _ rfl
    simp only [List.getElem?_cons_zero, List.getElem?_cons_succ] at h0 h1 h2
    obtain ⟨a, rfl, f0⟩ := u32_of h0
    obtain ⟨b, rfl, f1⟩ := u64_of h1
    obtain ⟨s, hs, f2⟩ := addr_of (cs := [v2, v3]) h2
    simp only [List.cons.injEq, and_true] at hs
    obtain ⟨rfl, rfl⟩ := hs
    exact ⟨((a, b), s), rfl, ⟨f0, f1⟩, f2⟩
/-- Places that came in. -/
theorem places_of {a : Option Addr} {len cap fuel : Nat} {y : DataW H × List MemPlace} (h : DataW.trod enc Try.prog W 0 (fun _ => true) true fuel 25 [.slice a len cap] = some y) : ∃ ps, KIn W a len ps ∧ len ≤ cap ∧ (a = none → len = 0 ∧ cap = 0) := by
  obtain ⟨⟨h1, h2, h3⟩, h4⟩ := rows_of Try.underlying25 (sz := 4) (by kernel_rfl) (by decide) h
  rcases h4 with rfl | ⟨b, off, rfl, hc⟩
  · exact ⟨[], ⟨rfl, Nat.zero_le _, by simp, .inl rfl⟩, h1, h3⟩
  · obtain ⟨ps, hl, hp⟩ := list_of (n := len) (p := fun i (x : Pl) => (∀ (j : Nat) (v : Value), (plL x)[j]? = some v → W.cell? ⟨b, off + i * 4 + j, none⟩ = some v) ∧ FitsP x) (fun i hi => by
      obtain ⟨cs, e1, e2, f, y', e3⟩ := hc i hi
      obtain ⟨x, rfl, hf⟩ := place_of e3
      exact ⟨x, fun j v hv => by rw [e2 j (by have := (List.getElem?_eq_some_iff.1 hv).1; simpa [plL] using this)]; exact hv, hf⟩)
    refine ⟨ps, ⟨hl, Nat.le_trans h1 h2, fun x hx => ?_, .inr ⟨b, off, rfl, fun i x hx => (hp i x hx).1⟩⟩, h1, h3⟩
    obtain ⟨i, hi⟩ := List.getElem?_of_mem hx
    exact (hp i x hi).2
theorem state_of {cs : List Value} {n : Nat} {y : DataW H × List MemPlace} (h : DataW.trod enc Try.prog W 0 (fun _ => true) true n 27 cs = some y) : ∃ (seq : Int) (A : Option Addr) (N C : Nat) (xs : List Pl), cs = [.int .u64 seq, .slice A N C] ∧ FitsU seq ∧ KIn W A N xs ∧ N ≤ C ∧ (A = none → N = 0 ∧ C = 0) := by
  obtain ⟨xs, m, _, _, hlen, hxl, hf⟩ := DataW.trod_struct Try.underlying27 h
  have hc2 : Try.prog.cellsOf 27 = 2 := by kernel_rfl
  rw [hc2] at hlen
  match cs, hlen, xs, hxl with
  | [v0, v1], _, [x0, x1], _ =>
    have h0 := hf 0 _ rfl
    have h1 := hf 1 _ rfl
    simp only [List.getElem?_cons_zero, List.getElem?_cons_succ] at h0 h1
    obtain ⟨seq, rfl, f0⟩ := u64_of h0
    obtain ⟨A, N, C, rfl⟩ := slice_form Try.underlying25 h1
    obtain ⟨ps, k1, k2, k3⟩ := places_of h1
    exact ⟨seq, A, N, C, ps, rfl, f0, k1, k2, k3⟩
theorem open_state {r : Reach} {b0 : Nat} {v : Value} {d : DataW H} {p : List MemPlace} (hv : Value.okWide Try.prog W r b0 27 v) (h : Came enc W 27 v d p) : ∃ (seq : Int) (A : Option Addr) (N C : Nat) (xs : List Pl), v = .agg #[.int .u64 seq, .slice A N C] ∧ FitsU seq ∧ KIn W A N xs ∧ N ≤ C ∧ (A = none → N = 0 ∧ C = 0) := by
  obtain ⟨cs, rfl, hsz⟩ := okWide_struct Try.underlying27 hv
  obtain ⟨fuel, hf⟩ := h
  have hf' : DataW.trod enc Try.prog W 0 (fun _ => true) true fuel 27 cs.toList = some (d, p) := by simpa [Value.cells] using hf
  obtain ⟨seq, A, N, C, xs, h1, h2⟩ := state_of hf'
  obtain ⟨L, rfl⟩ : ∃ L : List Value, cs = L.toArray := ⟨cs.toList, by simp⟩
  simp only at h1
  subst h1
  exact ⟨seq, A, N, C, xs, rfl, h2⟩
def BkRaw (W : World) (v : Value) (D : List Int) : Prop := ∃ A L C, v = .slice A L C ∧ BIn W A L D ∧ (A = none → L = 0 ∧ C = 0) ∧ L ≤ C
def BsRaw (W : World) (a : Option Addr) (n : Nat) (bs : List (List Int)) : Prop :=
  bs.length = n ∧ n ≤ maxLen ∧ (n = 0 ∨ ∃ b off, a = some ⟨b, off, none⟩ ∧ ∀ (i : Nat) (D : List Int), bs[i]? = some D → ∃ v, W.cell? ⟨b, off + i, none⟩ = some v ∧ BkRaw W v D)
theorem blocks_of {a : Option Addr} {len cap fuel : Nat} {y : DataW H × List MemPlace} (h : DataW.trod enc Try.prog W 0 (fun _ => true) true fuel 29 [.slice a len cap] = some y) : ∃ bs, BsRaw W a len bs := by
  obtain ⟨⟨h1, h2, h3⟩, h4⟩ := rows_of Try.underlying29 (sz := 1) (by kernel_rfl) (by decide) h
  rcases h4 with rfl | ⟨b, off, rfl, hc⟩
  · exact ⟨[], rfl, Nat.zero_le _, .inl rfl⟩
  · obtain ⟨bs, hl, hp⟩ := list_of (n := len) (p := fun i (D : List Int) => ∃ v, W.cell? ⟨b, off + i, none⟩ = some v ∧ BkRaw W v D) (fun i hi => by
      obtain ⟨cs, e1, e2, f, y', e3⟩ := hc i hi
      match cs, e1 with
      | [v], _ =>
        obtain ⟨A, L, C, rfl⟩ := slice_form Try.underlying37 e3
        obtain ⟨D, hD, hLC, hDn⟩ := bytes_of e3
        refine ⟨D, .slice A L C, ?_, A, L, C, rfl, hD, hDn, hLC⟩
        have := e2 0 (by decide)
        simpa using this)
    exact ⟨bs, hl, Nat.le_trans h1 h2, .inr ⟨b, off, rfl, fun i D hi => hp i D hi⟩⟩
end
end Go.Proofs.Ytidhocamnalbmaa

/- One byte of a state's blocks turned; blocks left out. -/
namespace Go.Proofs.Ytidhocamnalbmaa
open Go.RowKit
set_option linter.unusedVariables false
set_option maxRecDepth 4000

theorem ckL_fits {s : Sh} {seq : Int} {ps : List Pl} : ∀ b ∈ ckL s seq ps, ∀ z ∈ b, Fits8 z := by
  intro b hb z hz
  obtain ⟨i, _, rfl⟩ := ckL_mem hb
  exact ckB_fits z hz
section
variable {s : Sh} {seq : Int} {ps : List Pl}
theorem dec_ok (hs : FitsU seq) (hn : ∀ p ∈ ps, FitsN p.1) (hz : ckE s ps = 0) : dkE s (ckL s seq ps) = 0 ∧ dkS s (ckL s seq ps) = seq ∧ dkX s (ckL s seq ps) = ps := by
  obtain ⟨h, h1, h2⟩ := isK_enc hs hn hz
  unfold dkE dkS dkX
  simp only [if_pos h]
  exact ⟨trivial, h1, h2⟩
theorem dec_cut (hs : FitsU seq) (hn : ∀ p ∈ ps, FitsN p.1) (hz : ckE s ps = 0) {l' : List (List Int)} (hm : ∀ b ∈ l', b ∈ ckL s seq ps) (hl : l'.length ≠ (ckL s seq ps).length) : dkE s l' = 141 := by
  unfold dkE
  rw [if_neg ((isK_enc hs hn hz).1.other ckL_fits hm hl)]
theorem dec_set (hs : FitsU seq) (hn : ∀ p ∈ ps, FitsN p.1) (hz : ckE s ps = 0) {k i : Nat} {b : List Int} (hb : (ckL s seq ps)[k]? = some b) (hi : i < b.length) {c : Int} (hc : Fits8 c) :
    (b[i] = c → dkE s ((ckL s seq ps).set k (b.set i c)) = 0) ∧ (b[i] ≠ c → dkE s ((ckL s seq ps).set k (b.set i c)) = 141) := by
  have h := (isK_enc hs hn hz).1
  refine ⟨?_, fun hne => ?_⟩
  · rintro rfl
    have e : (ckL s seq ps).set k b = ckL s seq ps := by
      obtain ⟨hk, e⟩ := List.getElem?_eq_some_iff.1 hb
      rw [← e]; exact List.set_getElem_self hk
    rw [List.set_getElem_self, e]
    exact (dec_ok hs hn hz).1
  · unfold dkE
    rw [if_neg (h.one ckL_fits hb hi hc (Ne.symm hne))]
theorem ckL_other (hs : FitsU seq) (hn : ∀ p ∈ ps, FitsN p.1) (hz : ckE s ps = 0) {k j : Nat} {b D : List Int} (hb : (ckL s seq ps)[k]? = some b) (hj : (ckL s seq ps)[j]? = some D) (hne : j ≠ k) : D ≠ b := by
  rintro rfl
  have h := (isK_enc hs hn hz).1
  have e1 := (h.each ckL_fits hb).2.1
  have e2 := (h.each ckL_fits hj).2.1
  rw [e1] at e2
  omega
end
theorem BsIn.back {W : World} {a : Option Addr} {n c : Nat} {bs : List (List Int)} (h : BsIn W a n bs) (hn : 0 < n) (hc : n ≤ c) : BsIn W (if c = 1 then a else a.map (·.add 1)) (n - 1) (bs.drop 1) := by
  obtain ⟨h1, h2, h3⟩ := h
  refine ⟨by rw [List.length_drop, h1], by omega, ?_⟩
  rcases Nat.lt_or_ge 1 n with hlt | hge
  · obtain ⟨b, off, ha, hx⟩ := h3.resolve_left (by omega)
    refine .inr ⟨b, off + 1, by rw [if_neg (by omega), ha]; rfl, fun i D hi => ?_⟩
    rw [List.getElem?_drop] at hi
    obtain ⟨v, hv, hb⟩ := hx (1 + i) D hi
    exact ⟨v, by rw [show off + 1 + i = off + (1 + i) by omega]; exact hv, hb⟩
  · exact .inl (by omega)
theorem BsIn.front {W : World} {a : Option Addr} {n : Nat} {bs : List (List Int)} (h : BsIn W a n bs) {k : Nat} (hk : k ≤ n) : BsIn W a k (bs.take k) := by
  obtain ⟨h1, h2, h3⟩ := h
  refine ⟨by rw [List.length_take, h1]; omega, by omega, ?_⟩
  rcases h3 with h3 | ⟨b, off, ha, hx⟩
  · exact .inl (by omega)
  · refine .inr ⟨b, off, ha, fun i D hi => ?_⟩
    exact hx i D (by rw [List.getElem?_take] at hi; split at hi; exact hi; cases hi)
theorem u8s_inj : ∀ {x y : List Int}, u8s x = u8s y → x = y
  | [], [], _ => rfl
  | [], _ :: _, h => by simp [u8s] at h
  | _ :: _, [], h => by simp [u8s] at h
  | a :: x, b :: y, h => by
    simp only [u8s, List.map_cons, List.cons.injEq, Value.int.injEq, true_and] at h
    rw [h.1, u8s_inj (x := x) (y := y) h.2]
theorem own_put {W : World} {B g n cc : Nat} {e : TypeId} {s : Nat} {xs : List Value} (h : W.ownsRow B e s (.slice (some ⟨g, 0, none⟩) n cc) n xs) (i : Nat) (v : Value) : (W.setCell ⟨g, i, none⟩ v).ownsRow B e s (.slice (some ⟨g, 0, none⟩) n cc) n (xs.set i v) := by
  refine ⟨by rw [List.length_set]; exact h.1, ?_⟩
  rcases h.2 with ⟨hv, _⟩ | ⟨g', cap, cur, hv, h1, h2, h3, h4, h5, h6⟩
  · cases hv
  · cases hv
    have hb : Blk W g cur.toList e := by unfold Blk; simpa using h2
    have hb2 := hb.set i v
    refine .inr ⟨g, cc, (cur.toList.set i v).toArray, rfl, h1, hb2, h3, h4, by simpa using h5, ?_⟩
    rw [List.toList_toArray, List.take_set, h6]
/-- One byte of one block of a row is written: the others, which have other bytes, are other blocks, and stay. -/
theorem row_put {O : Nat → Prop} {W : World} {a : Option Addr} {n c : Nat} {bs : List (List Int)} (h : RowAt O W (.slice a n c) bs) {k : Nat} {D : List Int} (hD : bs[k]? = some D) (hd : ∀ (j : Nat) (D' : List Int), bs[j]? = some D' → j ≠ k → D' ≠ D) (hl : ∀ D' ∈ bs, D'.length = D.length) {i : Nat} (hi : i < D.length) :
    ∃ r g C, a = some ⟨r, 0, none⟩ ∧ W.cell? ⟨r, k, none⟩ = some (.slice (some ⟨g, 0, none⟩) D.length C) ∧ W.cell? ⟨g, i, none⟩ = some (.int .u8 D[i]) ∧ W.frozen? ⟨g, i, none⟩ = false ∧ O g ∧ D.length ≤ 1000000 ∧ ∀ z, Fits8 z → RowAt O (W.setCell ⟨g, i, none⟩ (.int .u8 z)) (.slice a n c) (bs.set k (D.set i z)) := by
  obtain ⟨vs, h1, h2, h3, h4⟩ := h
  have hk := (List.getElem?_eq_some_iff.1 hD).1
  obtain ⟨v, hv⟩ : ∃ v, vs[k]? = some v := ⟨vs[k]'(by rw [h3.1]; exact hk), by simp [h3.1, hk]⟩
  have kk := h3.2 k v D hv hD
  obtain ⟨k1, k2, k3, k4⟩ := kk
  rcases k1.2 with ⟨_, hz⟩ | ⟨g, cap, cur, rfl, hb, hg, hc, hcm, hsz, htk⟩
  · omega
  rcases h1.2 with ⟨_, hz⟩ | ⟨r, capr, curr, hva, hbr, hgr, hcr, hcmr, hszr, htkr⟩
  · omega
  have hgb : Blk W g cur.toList 5 := by unfold Blk; simpa using hg
  cases hva
  have hcl := h1.cells (g := r) rfl k _ hv
  rw [Addr.add_mid, Nat.zero_add] at hcl
  have hcl2 := k1.cells (g := g) rfl i (.int .u8 D[i]) (by simp [u8s, hi])
  rw [Addr.add_mid, Nat.zero_add] at hcl2
  refine ⟨r, g, cap, rfl, hcl, hcl2, ?_, k2 g rfl, k4, fun z hzf => ?_⟩
  · simp [World.frozen?, hg]
  · refine ⟨vs, ?_, h2, ⟨by rw [List.length_set]; exact h3.1, fun j u D' hu hD' => ?_⟩, by rw [List.length_set]; exact h4⟩
    · rw [List.length_set]; exact own_set hgb (by decide) h1 i _
    · rcases Nat.decEq j k with hjk | rfl
      · rw [List.getElem?_set_ne (Ne.symm hjk)] at hD'
        have ku := h3.2 j u D' hu hD'
        refine ⟨ownsRow_setCell_other ku.1 (fun hug => hd j D' hD' hjk ?_) _, ku.2⟩
        have hug' : u.ownBlock = some g := hug
        rcases ku.1.2 with ⟨rfl, _⟩ | ⟨g', cap', cur', rfl, _, hg', _, _, _, htk'⟩
        · cases hug'
        · cases hug'
          rw [hg] at hg'
          cases hg'
          rw [hl D' (List.mem_of_getElem? hD')] at htk'
          exact u8s_inj (htk'.symm.trans htk)
      · rw [hv] at hu
        cases hu
        rw [List.getElem?_set_self hk] at hD'
        cases hD'
        refine ⟨?_, k2, fun y hy => ?_, by rw [List.length_set]; exact k4⟩
        · have := own_put k1 i (.int .u8 z)
          rw [List.length_set]
          rw [show u8s (D.set i z) = (u8s D).set i (.int .u8 z) by simp [u8s, List.map_set]]
          exact this
        · rcases List.mem_or_eq_of_mem_set hy with hy | rfl
          · exact k3 y hy
          · exact hzf
end Go.Proofs.Ytidhocamnalbmaa
