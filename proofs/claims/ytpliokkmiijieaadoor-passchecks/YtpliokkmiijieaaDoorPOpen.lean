/- What comes in, as the rows tell it, in the walks' words: bytes, numbers, a token, tenants, texts. -/
import Derived.Test.YtpliokkmiijieaaDoorRows
import Derived.Test.YtpliokkmiijieaaDoorPKnown
import Derived.Lib.SmallJoins
import Derived.ProofKit
import Derived.OpenShut
import Derived.Deep.Slices
namespace Go.Proofs.YtpliokkmiijieaaDoor
open Go.RowKit Go.ChangeShapes Go.WideShapes
set_option linter.unusedVariables false
set_option maxRecDepth 4000

section
variable {H : Type} {enc : TypeId × Value → H} {W : World}
abbrev Came (enc : TypeId × Value → H) (W : World) (t : TypeId) (v : Value) (d : DataW H) (p : List MemPlace) : Prop := DataW.Trod enc Tryd.prog W 0 (fun _ => true) true t v d p

theorem ints_cells {k : IntKind} {a : Option Addr} {len cap : Nat} {t e : TypeId} {fuel : Nat} {x : DataW H × List MemPlace} (ht : Tryd.prog.underlying t = some (.slice e)) (he : Tryd.prog.underlying e = some (.int k)) (hc : Tryd.prog.cellsOf e = 1)
    (h : DataW.trod enc Tryd.prog W 0 (fun _ => true) true fuel t [.slice a len cap] = some x) :
    (a = none ∧ len = 0 ∧ cap = 0) ∨ ∃ (b off : Nat) (zs : List Int), (len = 0 ∨ a = some ⟨b, off, none⟩) ∧ a ≠ none ∧ len ≤ cap ∧ cap ≤ maxLen ∧ zs.length = cap ∧ (∀ z ∈ zs, (Lit.int k z).wf = true) ∧ ∀ i, i < len → W.cell? ⟨b, off + i, none⟩ = some (.int k (zs.getD i 0)) := by
  rcases open_ints ht he hc h with ⟨hcs, _⟩ | ⟨x, l, c, zs, hcs, _, hl, hm, hz, _, hcell, hwz⟩
  · simp at hcs
    obtain ⟨rfl, rfl, rfl⟩ := hcs
    exact .inl ⟨rfl, rfl, rfl⟩
  · simp at hcs
    obtain ⟨rfl, rfl, rfl⟩ := hcs
    right
    have hz' : zs.length = cap := by simpa using hz
    by_cases h0 : len = 0
    · exact ⟨0, 0, zs, .inl h0, by simp, hl, hm, hz', hwz, fun i hi => by omega⟩
    · obtain ⟨b, off, spot⟩ := x
      have hc0 := hcell 0 (by omega)
      have hs : spot = none := by simpa [Addr.add] using World.cell?_spot hc0
      subst hs
      refine ⟨b, off, zs, .inr rfl, by simp, hl, hm, hz', hwz, fun i hi => ?_⟩
      have := hcell i (by omega)
      rwa [Addr.add_mid] at this
theorem bytes_of {a : Option Addr} {len cap : Nat} {fuel : Nat} {x : DataW H × List MemPlace} (h : DataW.trod enc Tryd.prog W 0 (fun _ => true) true fuel 22 [.slice a len cap] = some x) :
    ∃ zs, BIn W a len zs ∧ len ≤ cap ∧ (a = none → len = 0 ∧ cap = 0) := by
  rcases ints_cells Tryd.underlying22 Tryd.underlying5 (by kernel_rfl) h with ⟨rfl, rfl, rfl⟩ | ⟨b, off, zs, ha, hn, hl, hm, hz, hwz, hcell⟩
  · exact ⟨[], bin_none _, Nat.le_refl _, fun _ => ⟨rfl, rfl⟩⟩
  · refine ⟨zs.take len, ⟨by simp [hz]; omega, Nat.le_trans hl hm, fun z hz' => ?_, ?_⟩, hl, fun h => absurd h hn⟩
    · have := bounds_u8 (hwz z (List.mem_of_mem_take hz'))
      unfold Fits8
      omega
    · rcases ha with ha | ha
      · exact .inl ha
      · exact .inr ⟨b, off, ha, fun i hi => by rw [hcell i hi]; simp [List.getD, hi]⟩
theorem words_of {a : Option Addr} {len cap : Nat} {fuel : Nat} {x : DataW H × List MemPlace} (h : DataW.trod enc Tryd.prog W 0 (fun _ => true) true fuel 47 [.slice a len cap] = some x) :
    ∃ zs, UIn W a len zs ∧ len ≤ cap ∧ (a = none → len = 0 ∧ cap = 0) := by
  rcases ints_cells Tryd.underlying47 Tryd.underlying23 (by kernel_rfl) h with ⟨rfl, rfl, rfl⟩ | ⟨b, off, zs, ha, hn, hl, hm, hz, hwz, hcell⟩
  · exact ⟨[], ⟨rfl, Nat.zero_le _, by simp, .inl rfl⟩, Nat.le_refl _, fun _ => ⟨rfl, rfl⟩⟩
  · refine ⟨zs.take len, ⟨by simp [hz]; omega, Nat.le_trans hl hm, fun z hz' => ?_, ?_⟩, hl, fun h => absurd h hn⟩
    · have := bounds_u32 (hwz z (List.mem_of_mem_take hz'))
      unfold Fits32
      omega
    · rcases ha with ha | ha
      · exact .inl ha
      · exact .inr ⟨b, off, ha, fun i hi => by rw [hcell i hi]; simp [List.getD, hi]⟩
theorem open_bytes {a : Option Addr} {len cap : Nat} {d : DataW H} {p : List MemPlace} (h : Came enc W 22 (.slice a len cap) d p) : ∃ zs, BIn W a len zs ∧ len ≤ cap ∧ (a = none → len = 0 ∧ cap = 0) := by
  obtain ⟨fuel, hf⟩ := h
  exact bytes_of (by simpa [Value.cells] using hf)
theorem open_words {a : Option Addr} {len cap : Nat} {d : DataW H} {p : List MemPlace} (h : Came enc W 47 (.slice a len cap) d p) : ∃ zs, UIn W a len zs ∧ len ≤ cap ∧ (a = none → len = 0 ∧ cap = 0) := by
  obtain ⟨fuel, hf⟩ := h
  exact words_of (by simpa [Value.cells] using hf)
theorem u32_of {v : Value} {n : Nat} {y : DataW H × List MemPlace} (h : DataW.trod enc Tryd.prog W 0 (fun _ => true) true n 23 [v] = some y) : ∃ z, v = .int .u32 z ∧ Fits32 z := by
  obtain ⟨z, hv, _, hw⟩ := DataW.trod_int Tryd.underlying23 h
  have := bounds_u32 hw
  simp only [List.cons.injEq, and_true] at hv
  exact ⟨z, hv, by unfold Fits32; omega⟩
theorem u64_of {v : Value} {n : Nat} {y : DataW H × List MemPlace} (h : DataW.trod enc Tryd.prog W 0 (fun _ => true) true n 24 [v] = some y) : ∃ z, v = .int .u64 z ∧ 0 ≤ z ∧ z < 18446744073709551616 := by
  obtain ⟨z, hv, _, hw⟩ := DataW.trod_int Tryd.underlying24 h
  have := bounds_u64 hw
  simp only [List.cons.injEq, and_true] at hv
  exact ⟨z, hv, by omega, by omega⟩
theorem open_token {r : Reach} {b0 : Nat} {v : Value} {d : DataW H} {p : List MemPlace} (hv : Value.okWide Tryd.prog W r b0 26 v) (h : Came enc W 26 v d p) : ∃ t : Tok, v = tokV t ∧ t.Fits := by
  obtain ⟨v0, v1, v2, v3, y0, y1, y2, y3, n, rfl, _, _, h0, h1, h2, h3⟩ := Joins.open_agg4 Tryd.underlying26 (by kernel_rfl) (by kernel_rfl) hv h
  obtain ⟨a, rfl, fa⟩ := u32_of h0
  obtain ⟨b, rfl, fb⟩ := u32_of h1
  obtain ⟨c, hc, _⟩ := DataW.trod_bool Tryd.underlying4 h2
  obtain ⟨e, rfl, fe⟩ := u64_of h3
  simp only [List.cons.injEq, and_true] at hc
  subst hc
  exact ⟨⟨a, b, c, e⟩, rfl, fa, fb, fe⟩
theorem slice_form {t e : TypeId} {v : Value} {n : Nat} {y : DataW H × List MemPlace} (ht : Tryd.prog.underlying t = some (.slice e)) (h : DataW.trod enc Tryd.prog W 0 (fun _ => true) true n t [v] = some y) : ∃ a l c, v = .slice a l c := by
  rcases DataW.trod_slice ht h with ⟨hcs, _⟩ | ⟨a, l, c, _, _, _, _, hcs, _⟩
  · simp only [List.cons.injEq, and_true] at hcs; exact ⟨_, _, _, hcs⟩
  · simp only [List.cons.injEq, and_true] at hcs; exact ⟨_, _, _, hcs⟩
theorem ten_of {cs : List Value} {n : Nat} {y : DataW H × List MemPlace} (h : DataW.trod enc Tryd.prog W 0 (fun _ => true) true n 49 cs = some y) : ∃ t, TenIn 0 W cs t := by
  obtain ⟨xs, m, _, _, hlen, hxl, hf⟩ := DataW.trod_struct Tryd.underlying49 h
  have hc5 : Tryd.prog.cellsOf 49 = 5 := by kernel_rfl
  rw [hc5] at hlen
  match cs, hlen, xs, hxl with
  | [v0, v1, v2, v3, v4], _, [x0, x1, x2, x3, x4], _ =>
    have h0 := hf 0 _ rfl
    have h1 := hf 1 _ rfl
    have h2 := hf 2 _ rfl
    have h3 := hf 3 _ rfl
    have h4 := hf 4 _ rfl
    simp only [List.getElem?_cons_zero, List.getElem?_cons_succ] at h0 h1 h2 h3 h4
    obtain ⟨id, rfl, fid⟩ := u32_of h0
    obtain ⟨ka, kn, kc, rfl⟩ := slice_form Tryd.underlying22 h1
    obtain ⟨quota, rfl, fq⟩ := u64_of h2
    obtain ⟨size, rfl, fs⟩ := u64_of h3
    obtain ⟨ga, gn, gc, rfl⟩ := slice_form Tryd.underlying47 h4
    obtain ⟨key, k1, k2, k3⟩ := bytes_of h1
    obtain ⟨gone, g1, g2, g3⟩ := words_of h4
    exact ⟨⟨id, key, quota, size, gone⟩, ka, kn, kc, ga, gn, gc, rfl, ⟨k1, k2, k3, Lo.zero _⟩, ⟨g1, g2, g3, Lo.zero _⟩, fid, fq, fs⟩
theorem list_of {α : Type} {n : Nat} {p : Nat → α → Prop} (h : ∀ i, i < n → ∃ x, p i x) : ∃ l : List α, l.length = n ∧ ∀ i x, l[i]? = some x → p i x := by
  induction n with
  | zero => exact ⟨[], rfl, fun i x hx => by simp at hx⟩
  | succ n ih =>
    obtain ⟨l, hl, hp⟩ := ih (fun i hi => h i (by omega))
    obtain ⟨x, hx⟩ := h n (by omega)
    refine ⟨l ++ [x], by simp [hl], fun i y hy => ?_⟩
    by_cases hi : i < l.length
    · rw [List.getElem?_append_left hi] at hy
      exact hp i y hy
    · have hi' : i = l.length := by
        have := (List.getElem?_eq_some_iff.1 hy).1
        simp at this
        omega
      subst hi'
      simp at hy
      subst hy
      rw [hl]; exact hx
theorem open_tens {a : Option Addr} {len cap : Nat} {d : DataW H} {p : List MemPlace} (h : Came enc W 37 (.slice a len cap) d p) : ∃ ts, TsIn 0 W a len ts ∧ len ≤ cap ∧ (a = none → len = 0 ∧ cap = 0) := by
  obtain ⟨fuel, hf⟩ := h
  have hf' : DataW.trod enc Tryd.prog W 0 (fun _ => true) true fuel 37 [.slice a len cap] = some (d, p) := by simpa [Value.cells] using hf
  rcases Deep.open_slice Tryd.underlying37 hf' with ⟨hcs, _⟩ | ⟨x, l, c, m, n, D, Pl, hcs, _, hl, hm, hmm, _, hx⟩
  · simp at hcs
    obtain ⟨rfl, rfl, rfl⟩ := hcs
    exact ⟨[], ⟨rfl, .inl rfl⟩, Nat.le_refl _, fun _ => ⟨rfl, rfl⟩⟩
  · simp at hcs
    obtain ⟨rfl, rfl, rfl⟩ := hcs
    simp only [if_true] at hmm
    subst hmm
    have hc5 : Tryd.prog.cellsOf 49 = 5 := by kernel_rfl
    rw [hc5] at hx
    obtain ⟨ts, hts, hall⟩ := list_of (n := len) (p := fun i t => ∃ cs, W.cells? 0 (x.add (i * 5)) 5 = some cs ∧ TenIn 0 W cs t) (fun i hi => by
      obtain ⟨cs, h1, h2⟩ := hx i (by omega)
      obtain ⟨t, ht⟩ := ten_of h2
      exact ⟨t, cs, h1, ht⟩)
    refine ⟨ts, ⟨hts, ?_⟩, hl, (fun h => by cases h)⟩
    by_cases h0 : len = 0
    · exact .inl h0
    · obtain ⟨b, off, spot⟩ := x
      obtain ⟨cs, h1, _⟩ := hx 0 (by omega)
      obtain ⟨_, hlen, hcell⟩ := World.cells?_some h1
      have hc0 := hcell 0 (by omega)
      rw [List.getElem?_eq_getElem (by omega)] at hc0
      have hs : spot = none := by simpa [Addr.add] using World.cell?_spot hc0
      subst hs
      refine .inr ⟨b, off, rfl, Nat.zero_le _, fun r t ht => ?_⟩
      obtain ⟨cs', h1', hT⟩ := hall r t ht
      refine ⟨cs', hT, fun j v hv => ?_⟩
      obtain ⟨_, hlen', hcell'⟩ := World.cells?_some h1'
      have hj := (List.getElem?_eq_some_iff.1 hv).1
      have := hcell' j (by omega)
      rw [Addr.add_mid, Addr.add_mid, hv] at this
      exact this
/-- Texts whose headers lie one behind the other. -/
def SsIn (w : World) (a : Option Addr) (len : Nat) (ss : List ByteArray) : Prop :=
  ss.length = len ∧ (len = 0 ∨ ∃ b off, a = some ⟨b, off, none⟩ ∧ ∀ r s, ss[r]? = some s → w.cell? ⟨b, off + r, none⟩ = some (.string s))
theorem SsIn.below {w w' : World} {a : Option Addr} {len : Nat} {ss : List ByteArray} (h : SsIn w a len ss) (hb : Below w.heap.size w w') : SsIn w' a len ss := by
  obtain ⟨h1, h2⟩ := h
  refine ⟨h1, ?_⟩
  rcases h2 with h2 | ⟨b, off, ha, hc⟩
  · exact .inl h2
  · exact .inr ⟨b, off, ha, fun r s hr => by rw [hb.cell (old_block (hc r s hr))]; exact hc r s hr⟩
theorem open_strs {a : Option Addr} {len cap : Nat} {d : DataW H} {p : List MemPlace} (h : Came enc W 38 (.slice a len cap) d p) : ∃ ss, SsIn W a len ss ∧ len ≤ cap := by
  obtain ⟨fuel, hf⟩ := h
  have hf' : DataW.trod enc Tryd.prog W 0 (fun _ => true) true fuel 38 [.slice a len cap] = some (d, p) := by simpa [Value.cells] using hf
  rcases Deep.open_slice1 Tryd.underlying38 (by kernel_rfl) hf' with ⟨hcs, _⟩ | ⟨x, l, c, m, n, V, D, Pl, hcs, _, hl, hm, hmm, _, hx⟩
  · simp at hcs
    obtain ⟨rfl, rfl, rfl⟩ := hcs
    exact ⟨[], ⟨rfl, .inl rfl⟩, Nat.le_refl _⟩
  · simp at hcs
    obtain ⟨rfl, rfl, rfl⟩ := hcs
    simp only [if_true] at hmm
    subst hmm
    obtain ⟨ss, hss, hall⟩ := list_of (n := len) (p := fun i s => W.cell? (x.add i) = some (.string s)) (fun i hi => by
      obtain ⟨h1, h2⟩ := hx i (by omega)
      obtain ⟨s, hs, _⟩ := DataW.trod_string Tryd.underlying9 h2
      simp only [List.cons.injEq, and_true] at hs
      exact ⟨s, by rw [h1, hs]⟩)
    refine ⟨ss, ⟨hss, ?_⟩, hl⟩
    by_cases h0 : len = 0
    · exact .inl h0
    · obtain ⟨b, off, spot⟩ := x
      have hc0 := (hx 0 (by omega)).1
      have hs : spot = none := by simpa [Addr.add] using World.cell?_spot hc0
      subst hs
      refine .inr ⟨b, off, rfl, fun r s hr => ?_⟩
      have := hall r s hr
      rwa [Addr.add_mid] at this
end
end Go.Proofs.YtpliokkmiijieaaDoor
