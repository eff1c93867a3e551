/- What comes in, in the walks' words: tenants, calls, a shape. -/
import Derived.Test.YtkhldjpghjmgfaaRows
import Derived.Test.YtkhldjpghjmgfaaLgTn
import Derived.Test.YtkhldjpghjmgfaaSSh
import Derived.Lib.SmallJoins
import Derived.ProofKit
import Derived.OpenShut
import Derived.Deep.Slices
namespace Go.Proofs.Ytkhldjpghjmgfaa
open Go.RowKit Go.ChangeShapes Go.WideShapes
set_option linter.unusedVariables false
set_option maxRecDepth 4000
section
variable {H : Type} {enc : TypeId × Value → H} {W : World}
abbrev Came (enc : TypeId × Value → H) (W : World) (t : TypeId) (v : Value) (d : DataW H) (p : List MemPlace) : Prop := DataW.Trod enc Try.prog W 0 (fun _ => true) true t v d p
def F64 (z : Int) : Prop := -9223372036854775808 ≤ z ∧ z ≤ 9223372036854775807
theorem int_of {v : Value} {n : Nat} {y : DataW H × List MemPlace} (h : DataW.trod enc Try.prog W 0 (fun _ => true) true n 3 [v] = some y) : ∃ z, v = .int .i64 z ∧ F64 z := by
  obtain ⟨z, hv, _, hw⟩ := DataW.trod_int Try.underlying3 h
  have := bounds_i64 hw
  simp only [List.cons.injEq, and_true] at hv
  exact ⟨z, hv, by unfold F64; omega⟩
theorem u32_of {v : Value} {n : Nat} {y : DataW H × List MemPlace} (h : DataW.trod enc Try.prog W 0 (fun _ => true) true n 33 [v] = some y) : ∃ z, v = .int .u32 z ∧ FitsW z := by
  obtain ⟨z, hv, _, hw⟩ := DataW.trod_int Try.underlying33 h
  have := bounds_u32 hw
  simp only [List.cons.injEq, and_true] at hv
  exact ⟨z, hv, by unfold FitsW; omega⟩
theorem u64_of {v : Value} {n : Nat} {y : DataW H × List MemPlace} (h : DataW.trod enc Try.prog W 0 (fun _ => true) true n 34 [v] = some y) : ∃ z, v = .int .u64 z ∧ FitsQ z := by
  obtain ⟨z, hv, _, hw⟩ := DataW.trod_int Try.underlying34 h
  have := bounds_u64 hw
  simp only [List.cons.injEq, and_true] at hv
  exact ⟨z, hv, by unfold FitsQ; omega⟩
theorem bool_of {v : Value} {n : Nat} {y : DataW H × List MemPlace} (h : DataW.trod enc Try.prog W 0 (fun _ => true) true n 4 [v] = some y) : ∃ b, v = .bool b := by
  obtain ⟨b, hv, _⟩ := DataW.trod_bool Try.underlying4 h
  simp only [List.cons.injEq, and_true] at hv
  exact ⟨b, hv⟩
theorem list_of {α : Type} {n : Nat} {p : Nat → α → Prop} (h : ∀ i, i < n → ∃ x, p i x) : ∃ l : List α, l.length = n ∧ ∀ i x, l[i]? = some x → p i x := by
  induction n with
  | zero => exact ⟨[], rfl, fun i x hx => by simp at hx⟩
  | succ n ih =>
    obtain ⟨l, hl, hp⟩ := ih (fun i hi => h i (by omega))
    obtain ⟨x, hx⟩ := h n (by omega)
    refine ⟨l ++ [x], by simp [hl], fun i y hy => ?_⟩
    by_cases hi : i < l.length
    · rw [List.getElem?_append_left hi] at hy
      exact hp i y hy
    · have hi' : i = l.length := by
        have := (List.getElem?_eq_some_iff.1 hy).1
        simp at this
        omega
      subst hi'
      simp at hy
      subst hy
      rw [hl]; exact hx
theorem rows_of {t e : TypeId} {sz : Nat} {a : Option Addr} {len cap fuel : Nat} {y : DataW H × List MemPlace} (ht : Try.prog.underlying t = some (.slice e)) (hc : Try.prog.cellsOf e = sz) (hs0 : 0 < sz) (h : DataW.trod enc Try.prog W 0 (fun _ => true) true fuel t [.slice a len cap] = some y) :
    (len ≤ cap ∧ cap ≤ maxLen ∧ (a = none → len = 0 ∧ cap = 0)) ∧ (len = 0 ∨ ∃ b off, a = some ⟨b, off, none⟩ ∧ ∀ i, i < len → ∃ cs, cs.length = sz ∧ (∀ j, j < sz → W.cell? ⟨b, off + i * sz + j, none⟩ = cs[j]?) ∧ ∃ fuel' y', DataW.trod enc Try.prog W 0 (fun _ => true) true fuel' e cs = some y') := by
  rcases Deep.open_slice ht h with ⟨hcs, _⟩ | ⟨x, l, c, m, n, D, Pl, hcs, _, hl, hm, hmm, _, hx⟩
  · simp at hcs
    obtain ⟨rfl, rfl, rfl⟩ := hcs
    exact ⟨⟨Nat.le_refl _, Nat.zero_le _, fun _ => ⟨rfl, rfl⟩⟩, .inl rfl⟩
  · simp at hcs
    obtain ⟨rfl, rfl, rfl⟩ := hcs
    simp only [if_true] at hmm
    subst hmm
    rw [hc] at hx
    refine ⟨⟨hl, hm, fun h => by cases h⟩, ?_⟩
    by_cases h0 : len = 0
    · exact .inl h0
    · obtain ⟨b, off, spot⟩ := x
      obtain ⟨cs, h1, _⟩ := hx 0 (by omega)
      obtain ⟨_, hlen, hcell⟩ := World.cells?_some h1
      have hc0 := hcell 0 (by omega)
      rw [List.getElem?_eq_getElem (by omega)] at hc0
      have hs : spot = none := by simpa [Addr.add] using World.cell?_spot hc0
      subst hs
      refine .inr ⟨b, off, rfl, fun i hi => ?_⟩
      obtain ⟨cs', h1', h2'⟩ := hx i (by omega)
      obtain ⟨_, hlen', hcell'⟩ := World.cells?_some h1'
      refine ⟨cs', hlen', fun j hj => ?_, _, _, h2'⟩
      have := hcell' j (by omega)
      rw [Addr.add_mid, Addr.add_mid] at this
      exact this
theorem slice_form {t e : TypeId} {v : Value} {n : Nat} {y : DataW H × List MemPlace} (ht : Try.prog.underlying t = some (.slice e)) (h : DataW.trod enc Try.prog W 0 (fun _ => true) true n t [v] = some y) : ∃ a l c, v = .slice a l c := by
  rcases DataW.trod_slice ht h with ⟨hcs, _⟩ | ⟨a, l, c, _, _, _, _, hcs, _⟩
  · simp only [List.cons.injEq, and_true] at hcs; exact ⟨_, _, _, hcs⟩
  · simp only [List.cons.injEq, and_true] at hcs; exact ⟨_, _, _, hcs⟩
theorem ten_of {cs : List Value} {n : Nat} {y : DataW H × List MemPlace} (h : DataW.trod enc Try.prog W 0 (fun _ => true) true n 48 cs = some y) : ∃ t : Tn, cs = tC t ∧ t.Fits := by
  obtain ⟨xs, m, _, _, hlen, hxl, hf⟩ := DataW.trod_struct Try.underlying48 h
  have hc5 : Try.prog.cellsOf 48 = 5 := by kernel_rfl
  rw [hc5] at hlen
  match cs, hlen, xs, hxl with
  | [v0, v1, v2, v3, v4], _, [x0, x1, x2, x3, x4], _ =>
    have h0 := hf 0 _ rfl
    have h1 := hf 1 _ rfl
    have h2 := hf 2 _ rfl
    have h3 := hf 3 _ rfl
    have h4 := hf 4 _ rfl
    simp only [List.getElem?_cons_zero, List.getElem?_cons_succ] at h0 h1 h2 h3 h4
    obtain ⟨id, rfl, fid⟩ := u32_of h0
    obtain ⟨ka, kn, kc, rfl⟩ := slice_form Try.underlying45 h1
    obtain ⟨quota, rfl, fq⟩ := u64_of h2
    obtain ⟨size, rfl, fs⟩ := u64_of h3
    obtain ⟨ga, gn, gc, rfl⟩ := slice_form Try.underlying46 h4
    exact ⟨⟨id, ka, kn, kc, quota, size, ga, gn, gc⟩, rfl, fid, fq, fs⟩
theorem open_tens {a : Option Addr} {len cap : Nat} {d : DataW H} {p : List MemPlace} (h : Came enc W 24 (.slice a len cap) d p) : ∃ ts, TsL W a len ts ∧ len ≤ cap ∧ (a = none → len = 0 ∧ cap = 0) := by
  obtain ⟨fuel, hf⟩ := h
  have hf' : DataW.trod enc Try.prog W 0 (fun _ => true) true fuel 24 [.slice a len cap] = some (d, p) := by simpa [Value.cells] using hf
  obtain ⟨⟨h1, h2, h3⟩, h4⟩ := rows_of Try.underlying24 (sz := 5) (by kernel_rfl) (by decide) hf'
  rcases h4 with rfl | ⟨b, off, rfl, hc⟩
  · exact ⟨[], ⟨rfl, (fun o h => by simp at h), .inl rfl⟩, h1, h3⟩
  · obtain ⟨ts, hl, hp⟩ := list_of (n := len) (p := fun i (t : Tn) => W.rangeAt b (off + i * 5) (tC t) ∧ t.Fits) (fun i hi => by
      obtain ⟨cs, e1, e2, f, y', e3⟩ := hc i hi
      obtain ⟨t, rfl, hF⟩ := ten_of e3
      exact ⟨t, fun j v hv => (e2 j (by have := (List.getElem?_eq_some_iff.1 hv).1; rw [tC_length] at this; exact this)).trans hv, hF⟩)
    refine ⟨ts, ⟨hl, fun t ht => ?_, .inr ⟨b, off, rfl, fun i o hi => (hp i o hi).1⟩⟩, h1, h3⟩
    obtain ⟨i, hi⟩ := List.getElem?_of_mem ht
    exact (hp i t hi).2
theorem op_of {cs : List Value} {n : Nat} {y : DataW H × List MemPlace} (h : DataW.trod enc Try.prog W 0 (fun _ => true) true n 36 cs = some y) : ∃ o : Opl, cs = opC o ∧ OpF o := by
  obtain ⟨xs, m, _, _, hlen, hxl, hf⟩ := DataW.trod_struct Try.underlying36 h
  have hc3 : Try.prog.cellsOf 36 = 3 := by kernel_rfl
  rw [hc3] at hlen
  match cs, hlen, xs, hxl with
  | [v0, v1, v2], _, [x0, x1, x2], _ =>
    have h0 := hf 0 _ rfl
    have h1 := hf 1 _ rfl
    have h2 := hf 2 _ rfl
    simp only [List.getElem?_cons_zero, List.getElem?_cons_succ] at h0 h1 h2
    obtain ⟨d, rfl⟩ := bool_of h0
    obtain ⟨t, rfl, f1⟩ := u32_of h1
    obtain ⟨m, rfl, f2⟩ := u64_of h2
    exact ⟨(d, t, m), rfl, f1, f2⟩
def OpsIn (W : World) (a : Option Addr) (len : Nat) (os : List Opl) : Prop :=
  os.length = len ∧ (len = 0 ∨ ∃ b off, a = some ⟨b, off, none⟩ ∧ ∀ i o, os[i]? = some o → W.rangeAt b (off + i * 3) (opC o))
def OpsF (os : List Opl) : Prop := ∀ o ∈ os, OpF o
theorem OpsIn.below {W W' : World} {a : Option Addr} {len : Nat} {os : List Opl} (h : OpsIn W a len os) (hb : Below W.heap.size W W') : OpsIn W' a len os := by
  obtain ⟨h1, h2⟩ := h
  refine ⟨h1, ?_⟩
  rcases h2 with h2 | ⟨b, off, ha, hc⟩
  · exact .inl h2
  · exact .inr ⟨b, off, ha, fun i o ho => rangeAt_same (hc i o ho) (hb.block b (rangeAt_lt (hc i o ho)))⟩
theorem open_ops {a : Option Addr} {len cap : Nat} {d : DataW H} {p : List MemPlace} (h : Came enc W 27 (.slice a len cap) d p) : ∃ os, OpsIn W a len os ∧ OpsF os := by
  obtain ⟨fuel, hf⟩ := h
  have hf' : DataW.trod enc Try.prog W 0 (fun _ => true) true fuel 27 [.slice a len cap] = some (d, p) := by simpa [Value.cells] using hf
  obtain ⟨⟨h1, h2, h3⟩, h4⟩ := rows_of Try.underlying27 (sz := 3) (by kernel_rfl) (by decide) hf'
  rcases h4 with rfl | ⟨b, off, rfl, hc⟩
  · exact ⟨[], ⟨rfl, .inl rfl⟩, fun o h => by simp at h⟩
  · obtain ⟨os, hl, hp⟩ := list_of (n := len) (p := fun i (o : Opl) => W.rangeAt b (off + i * 3) (opC o) ∧ OpF o) (fun i hi => by
      obtain ⟨cs, e1, e2, f, y', e3⟩ := hc i hi
      obtain ⟨o, rfl, hF⟩ := op_of e3
      exact ⟨o, fun j v hv => (e2 j (by have := (List.getElem?_eq_some_iff.1 hv).1; exact this)).trans hv, hF⟩)
    refine ⟨os, ⟨hl, .inr ⟨b, off, rfl, fun i o hi => (hp i o hi).1⟩⟩, fun o ho => ?_⟩
    obtain ⟨i, hi⟩ := List.getElem?_of_mem ho
    exact (hp i o hi).2
def ShF (s : Sh) : Prop := F64 s.z ∧ F64 s.zb ∧ F64 s.b ∧ F64 s.r
theorem open_shape {r : Reach} {b0 : Nat} {v : Value} {d : DataW H} {p : List MemPlace} (hv : Value.okWide Try.prog W r b0 23 v) (h : Came enc W 23 v d p) : ∃ s : Sh, v = .agg (shL s).toArray ∧ ShF s := by
  obtain ⟨cs, rfl, hsz⟩ := okWide_struct Try.underlying23 hv
  obtain ⟨fuel, hf⟩ := h
  have hf' : DataW.trod enc Try.prog W 0 (fun _ => true) true fuel 23 cs.toList = some (d, p) := by simpa [Value.cells] using hf
  obtain ⟨xs, m, _, _, hlen, hxl, hf⟩ := DataW.trod_struct Try.underlying23 hf'
  have hc4 : Try.prog.cellsOf 23 = 4 := by kernel_rfl
  rw [hc4] at hlen
  obtain ⟨L, rfl⟩ : ∃ L : List Value, cs = L.toArray := ⟨cs.toList, by simp⟩
  simp only at hlen hf
  match L, hlen, xs, hxl with
  | [v0, v1, v2, v3], _, [x0, x1, x2, x3], _ =>
    have h0 := hf 0 _ rfl
    have h1 := hf 1 _ rfl
    have h2 := hf 2 _ rfl
    have h3 := hf 3 _ rfl
    simp only [List.getElem?_cons_zero, List.getElem?_cons_succ] at h0 h1 h2 h3
    obtain ⟨z, rfl, f0⟩ := int_of h0
    obtain ⟨zb, rfl, f1⟩ := int_of h1
    obtain ⟨b, rfl, f2⟩ := int_of h2
    obtain ⟨r, rfl, f3⟩ := int_of h3
    exact ⟨⟨z, zb, b, r⟩, rfl, f0, f1, f2, f3⟩
end
end Go.Proofs.Ytkhldjpghjmgfaa
