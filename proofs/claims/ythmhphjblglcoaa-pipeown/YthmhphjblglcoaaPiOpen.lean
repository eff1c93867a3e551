/- What comes in for the laws of the pipe, in the walks' words. -/
import Derived.Test.YthmhphjblglcoaaRows
import Derived.Test.YthmhphjblglcoaaPiL
import Derived.Lib.SmallJoins
import Derived.ProofKit
import Derived.OpenShut
import Derived.Deep.Slices
namespace Go.Proofs.Ythmhphjblglcoaa
open Go.RowKit Go.ChangeShapes Go.WideShapes
set_option linter.unusedVariables false
set_option maxRecDepth 4000
theorem fitsU {z : Int} (h : (Lit.int .u64 z).wf = true) : FitsU z := by have := bounds_u64 h; unfold FitsU; omega
/-- A call: Take of k, or Add of p, or Clear. -/
structure Po where
  ad : Bool
  cl : Bool
  k : Int
  p : Pq
def poL (o : Po) (v : Value) : List Value := [.bool o.ad, .bool o.cl, .int .i64 o.k] ++ rqL o.p.1 v
def I64 (z : Int) : Prop := -9223372036854775808 ≤ z ∧ z < 9223372036854775808
/-- Calls whose cells lie one behind the other. -/
def OsIn (w : World) (a : Option Addr) (n : Nat) (os : List Po) : Prop :=
  os.length = n ∧ (n = 0 ∨ ∃ b off, a = some ⟨b, off, none⟩ ∧ ∀ (i : Nat) (o : Po), os[i]? = some o → ∃ A k C, o.p.1.Fits ∧ I64 o.k ∧ DIn w A k C o.p.2 ∧ ∀ (j : Nat) (v : Value), (poL o (.slice A k C))[j]? = some v → w.cell? ⟨b, off + i * 9 + j, none⟩ = some v)
theorem OsIn.at {w : World} {a : Option Addr} {n i : Nat} {os : List Po} (h : OsIn w a n os) (hi : i < n) : ∃ b off o A k C, a = some ⟨b, off, none⟩ ∧ os[i]? = some o ∧ o.p.1.Fits ∧ I64 o.k ∧ DIn w A k C o.p.2 ∧ ∀ (j : Nat) (v : Value), (poL o (.slice A k C))[j]? = some v → w.cell? ⟨b, off + i * 9 + j, none⟩ = some v := by
  obtain ⟨h1, h2⟩ := h
  obtain ⟨b, off, ha, hc⟩ := h2.resolve_left (by omega)
  have hp : os[i]? = some (os[i]'(by omega)) := by simp
  obtain ⟨A, k, C, f, g, d, c⟩ := hc i _ hp
  exact ⟨b, off, _, A, k, C, ha, hp, f, g, d, c⟩
theorem OsIn.below {w w' : World} {a : Option Addr} {n : Nat} {os : List Po} (h : OsIn w a n os) (hb : Below w.heap.size w w') : OsIn w' a n os := by
  obtain ⟨h1, h2⟩ := h
  refine ⟨h1, ?_⟩
  rcases h2 with h2 | ⟨b, off, ha, hc⟩
  · exact .inl h2
  · refine .inr ⟨b, off, ha, fun i p hp => ?_⟩
    obtain ⟨A, k, C, f, g, d, c⟩ := hc i p hp
    exact ⟨A, k, C, f, g, d.below hb, fun j v hj => by rw [hb.cell (old_block (c j v hj))]; exact c j v hj⟩
section
variable {H : Type} {enc : TypeId × Value → H} {W : World}
abbrev Came (enc : TypeId × Value → H) (W : World) (t : TypeId) (v : Value) (d : DataW H) (p : List MemPlace) : Prop := DataW.Trod enc Try.prog W 0 (fun _ => true) true t v d p
theorem ints_cells {k : IntKind} {a : Option Addr} {len cap : Nat} {t e : TypeId} {fuel : Nat} {x : DataW H × List MemPlace} (ht : Try.prog.underlying t = some (.slice e)) (he : Try.prog.underlying e = some (.int k)) (hc : Try.prog.cellsOf e = 1)
    (h : DataW.trod enc Try.prog W 0 (fun _ => true) true fuel t [.slice a len cap] = some x) :
    (a = none ∧ len = 0 ∧ cap = 0) ∨ ∃ (b off : Nat) (zs : List Int), (len = 0 ∨ a = some ⟨b, off, none⟩) ∧ a ≠ none ∧ len ≤ cap ∧ cap ≤ maxLen ∧ zs.length = cap ∧ (∀ z ∈ zs, (Lit.int k z).wf = true) ∧ ∀ i, i < len → W.cell? ⟨b, off + i, none⟩ = some (.int k (zs.getD i 0)) := by
  rcases open_ints ht he hc h with ⟨hcs, _⟩ | ⟨x, l, c, zs, hcs, _, hl, hm, hz, _, hcell, hwz⟩
  · simp at hcs
    obtain ⟨rfl, rfl, rfl⟩ := hcs
    exact .inl ⟨rfl, rfl, rfl⟩
  · simp at hcs
    obtain ⟨rfl, rfl, rfl⟩ := hcs
    right
    have hz' : zs.length = cap := by simpa using hz
    by_cases h0 : len = 0
    · exact ⟨0, 0, zs, .inl h0, by simp, hl, hm, hz', hwz, fun i hi => by omega⟩
    · obtain ⟨b, off, spot⟩ := x
      have hc0 := hcell 0 (by omega)
      have hs : spot = none := by simpa [Addr.add] using World.cell?_spot hc0
      subst hs
      refine ⟨b, off, zs, .inr rfl, by simp, hl, hm, hz', hwz, fun i hi => ?_⟩
      have := hcell i (by omega)
      rwa [Addr.add_mid] at this
theorem bytes_of {a : Option Addr} {len cap : Nat} {fuel : Nat} {x : DataW H × List MemPlace} (h : DataW.trod enc Try.prog W 0 (fun _ => true) true fuel 32 [.slice a len cap] = some x) :
    ∃ zs, DIn W a len cap zs := by
  rcases ints_cells Try.underlying32 Try.underlying5 (by kernel_rfl) h with ⟨rfl, rfl, rfl⟩ | ⟨b, off, zs, ha, hn, hl, hm, hz, hwz, hcell⟩
  · exact ⟨[], bin_none _, Nat.le_refl _, fun _ => ⟨rfl, rfl⟩⟩
  · refine ⟨zs.take len, ⟨by simp [hz]; omega, Nat.le_trans hl hm, fun z hz' => ?_, ?_⟩, hl, fun h => absurd h hn⟩
    · have := bounds_u8 (hwz z (List.mem_of_mem_take hz'))
      unfold Fits8
      omega
    · rcases ha with ha | ha
      · exact .inl ha
      · exact .inr ⟨b, off, ha, fun i hi => by rw [hcell i hi]; simp [List.getD, hi]⟩
theorem u16_of {v : Value} {n : Nat} {y : DataW H × List MemPlace} (h : DataW.trod enc Try.prog W 0 (fun _ => true) true n 29 [v] = some y) : ∃ z, v = .int .u16 z ∧ Fits16 z := by
  obtain ⟨z, hv, _, hw⟩ := DataW.trod_int Try.underlying29 h
  have := bounds_u16 hw
  simp only [List.cons.injEq, and_true] at hv
  exact ⟨z, hv, by unfold Fits16; omega⟩
theorem u32_of {v : Value} {n : Nat} {y : DataW H × List MemPlace} (h : DataW.trod enc Try.prog W 0 (fun _ => true) true n 31 [v] = some y) : ∃ z, v = .int .u32 z ∧ Fits32 z := by
  obtain ⟨z, hv, _, hw⟩ := DataW.trod_int Try.underlying31 h
  have := bounds_u32 hw
  simp only [List.cons.injEq, and_true] at hv
  exact ⟨z, hv, by unfold Fits32; omega⟩
theorem u64_of {v : Value} {n : Nat} {y : DataW H × List MemPlace} (h : DataW.trod enc Try.prog W 0 (fun _ => true) true n 30 [v] = some y) : ∃ z, v = .int .u64 z ∧ FitsU z := by
  obtain ⟨z, hv, _, hw⟩ := DataW.trod_int Try.underlying30 h
  simp only [List.cons.injEq, and_true] at hv
  exact ⟨z, hv, fitsU hw⟩
theorem slice_form {t e : TypeId} {v : Value} {n : Nat} {y : DataW H × List MemPlace} (ht : Try.prog.underlying t = some (.slice e)) (h : DataW.trod enc Try.prog W 0 (fun _ => true) true n t [v] = some y) : ∃ a l c, v = .slice a l c := by
  rcases DataW.trod_slice ht h with ⟨hcs, _⟩ | ⟨a, l, c, _, _, _, _, hcs, _⟩
  · simp only [List.cons.injEq, and_true] at hcs; exact ⟨_, _, _, hcs⟩
  · simp only [List.cons.injEq, and_true] at hcs; exact ⟨_, _, _, hcs⟩
theorem req_of {cs : List Value} {n : Nat} {y : DataW H × List MemPlace} (h : DataW.trod enc Try.prog W 0 (fun _ => true) true n 34 cs = some y) : ∃ r A k C D, cs = rqL r (.slice A k C) ∧ r.Fits ∧ DIn W A k C D := by
  obtain ⟨xs, m, _, _, hlen, hxl, hf⟩ := DataW.trod_struct Try.underlying34 h
  have hc6 : Try.prog.cellsOf 34 = 6 := by kernel_rfl
  rw [hc6] at hlen
  match cs, hlen, xs, hxl with
  | [v0, v1, v2, v3, v4, v5], _, [x0, x1, x2, x3, x4, x5], _ =>
    have h0 := hf 0 _ rfl
    have h1 := hf 1 _ rfl
    have h2 := hf 2 _ rfl
    have h3 := hf 3 _ rfl
    have h4 := hf 4 _ rfl
    have h5 := hf 5 _ rfl
    simp only [List.getElem?_cons_zero, List.getElem?_cons_succ] at h0 h1 h2 h3 h4 h5
    obtain ⟨fl, rfl, f0⟩ := u16_of h0
    obtain ⟨kd, rfl, f1⟩ := u16_of h1
    obtain ⟨ck, rfl, f2⟩ := u64_of h2
    obtain ⟨ofs, rfl, f3⟩ := u64_of h3
    obtain ⟨ln, rfl, f4⟩ := u32_of h4
    obtain ⟨A, k, C, rfl⟩ := slice_form Try.underlying32 h5
    obtain ⟨D, hD⟩ := bytes_of h5
    exact ⟨⟨fl, kd, ck, ofs, ln⟩, A, k, C, D, rfl, ⟨f0, f1, f2, f3, f4⟩, hD⟩
theorem int_of {v : Value} {n : Nat} {y : DataW H × List MemPlace} (h : DataW.trod enc Try.prog W 0 (fun _ => true) true n 3 [v] = some y) : ∃ z, v = .int .i64 z ∧ I64 z := by
  obtain ⟨z, hv, _, hw⟩ := DataW.trod_int Try.underlying3 h
  have := bounds_i64 hw
  simp only [List.cons.injEq, and_true] at hv
  exact ⟨z, hv, by unfold I64; omega⟩
theorem bool_of {v : Value} {n : Nat} {y : DataW H × List MemPlace} (h : DataW.trod enc Try.prog W 0 (fun _ => true) true n 4 [v] = some y) : ∃ b, v = .bool b := by
  obtain ⟨b, hv, _⟩ := DataW.trod_bool Try.underlying4 h
  simp only [List.cons.injEq, and_true] at hv
  exact ⟨b, hv⟩
theorem list_of {α : Type} {n : Nat} {p : Nat → α → Prop} (h : ∀ i, i < n → ∃ x, p i x) : ∃ l : List α, l.length = n ∧ ∀ i x, l[i]? = some x → p i x := by
  induction n with
  | zero => exact ⟨[], rfl, fun i x hx => by simp at hx⟩
  | succ n ih =>
    obtain ⟨l, hl, hp⟩ := ih (fun i hi => h i (by omega))
    obtain ⟨x, hx⟩ := h n (by omega)
    refine ⟨l ++ [x], by simp [hl], fun i y hy => ?_⟩
    by_cases hi : i < l.length
    · rw [List.getElem?_append_left hi] at hy
      exact hp i y hy
    · have hi' : i = l.length := by
        have := (List.getElem?_eq_some_iff.1 hy).1
        simp at this
        omega
      subst hi'
      simp at hy
      subst hy
      rw [hl]; exact hx
theorem open_requests {a : Option Addr} {len cap : Nat} {d : DataW H} {p : List MemPlace} (h : Came enc W 43 (.slice a len cap) d p) : ∃ rs, RsIn W a len rs ∧ len ≤ cap ∧ (a = none → len = 0 ∧ cap = 0) := by
  obtain ⟨fuel, hf⟩ := h
  have hf' : DataW.trod enc Try.prog W 0 (fun _ => true) true fuel 43 [.slice a len cap] = some (d, p) := by simpa [Value.cells] using hf
  rcases Deep.open_slice Try.under_reqs hf' with ⟨hcs, _⟩ | ⟨x, l, c, m, n, D, Pl, hcs, _, hl, hm, hmm, _, hx⟩
  · simp at hcs
    obtain ⟨rfl, rfl, rfl⟩ := hcs
    exact ⟨[], ⟨rfl, .inl rfl⟩, Nat.le_refl _, fun _ => ⟨rfl, rfl⟩⟩
  · simp at hcs
    obtain ⟨rfl, rfl, rfl⟩ := hcs
    simp only [if_true] at hmm
    subst hmm
    have hc6 : Try.prog.cellsOf 34 = 6 := by kernel_rfl
    rw [hc6] at hx
    obtain ⟨rs, hrs, hall⟩ := list_of (n := len) (p := fun i (t : Rq × List Int) => ∃ cs, W.cells? 0 (x.add (i * 6)) 6 = some cs ∧ ∃ A k C, cs = rqL t.1 (.slice A k C) ∧ t.1.Fits ∧ DIn W A k C t.2) (fun i hi => by
      obtain ⟨cs, h1, h2⟩ := hx i (by omega)
      obtain ⟨r, A, k, C, D, hc, hr, hD⟩ := req_of h2
      exact ⟨(r, D), cs, h1, A, k, C, hc, hr, hD⟩)
    refine ⟨rs, ⟨hrs, ?_⟩, hl, (fun h => by cases h)⟩
    by_cases h0 : len = 0
    · exact .inl h0
    · obtain ⟨b, off, spot⟩ := x
      obtain ⟨cs, h1, _⟩ := hx 0 (by omega)
      obtain ⟨_, hlen, hcell⟩ := World.cells?_some h1
      have hc0 := hcell 0 (by omega)
      rw [List.getElem?_eq_getElem (by omega)] at hc0
      have hs : spot = none := by simpa [Addr.add] using World.cell?_spot hc0
      subst hs
      refine .inr ⟨b, off, rfl, fun r t ht => ?_⟩
      obtain ⟨cs', h1', A, k, C, rfl, hf, hD⟩ := hall r t ht
      refine ⟨A, k, C, hf, hD, fun j v hv => ?_⟩
      obtain ⟨_, hlen', hcell'⟩ := World.cells?_some h1'
      have hj := (List.getElem?_eq_some_iff.1 hv).1
      have := hcell' j (by omega)
      rw [Addr.add_mid, Addr.add_mid, hv] at this
      exact this
theorem op_of {cs : List Value} {n : Nat} {y : DataW H × List MemPlace} (h : DataW.trod enc Try.prog W 0 (fun _ => true) true n 36 cs = some y) : ∃ o A k C, cs = poL o (.slice A k C) ∧ o.p.1.Fits ∧ I64 o.k ∧ DIn W A k C o.p.2 := by
  obtain ⟨xs, m, _, _, hlen, hxl, hf⟩ := DataW.trod_struct Try.underlying36 h
  have hc9 : Try.prog.cellsOf 36 = 9 := by kernel_rfl
  rw [hc9] at hlen
  match cs, hlen, xs, hxl with
  | [v0, v1, v2, v3, v4, v5, v6, v7, v8], _, [x0, x1, x2, x3], _ =>
    have h0 := hf 0 _ rfl
    have h1 := hf 1 _ rfl
    have h2 := hf 2 _ rfl
    have h3 := hf 3 _ rfl
    simp only [List.getElem?_cons_zero, List.getElem?_cons_succ] at h0 h1 h2 h3
    have hc6 : Try.prog.cellsOf 34 = 6 := by kernel_rfl
    have h3' : DataW.trod enc Try.prog W 0 (fun _ => true) true m 34 [v3, v4, v5, v6, v7, v8] = some x3 := by
      have h3'' : DataW.trod enc Try.prog W 0 (fun _ => true) true m 34 (List.take (Try.prog.cellsOf 34) (List.drop 3 [v0, v1, v2, v3, v4, v5, v6, v7, v8])) = some x3 := h3
      rw [hc6] at h3''
      exact h3''
    obtain ⟨ad, rfl⟩ := bool_of h0
    obtain ⟨cl, rfl⟩ := bool_of h1
    obtain ⟨k, rfl, fk⟩ := int_of h2
    obtain ⟨r, A, L, C, D, hc, hr, hD⟩ := req_of h3'
    simp only [rqL, List.cons.injEq, and_true] at hc
    obtain ⟨rfl, rfl, rfl, rfl, rfl, rfl⟩ := hc
    exact ⟨⟨ad, cl, k, (r, D)⟩, A, L, C, rfl, hr, fk, hD⟩
theorem open_pops {a : Option Addr} {len cap : Nat} {d : DataW H} {p : List MemPlace} (h : Came enc W 22 (.slice a len cap) d p) : ∃ os, OsIn W a len os ∧ len ≤ cap ∧ (a = none → len = 0 ∧ cap = 0) := by
  obtain ⟨fuel, hf⟩ := h
  have hf' : DataW.trod enc Try.prog W 0 (fun _ => true) true fuel 22 [.slice a len cap] = some (d, p) := by simpa [Value.cells] using hf
  rcases Deep.open_slice Try.underlying22 hf' with ⟨hcs, _⟩ | ⟨x, l, c, m, n, D, Pl, hcs, _, hl, hm, hmm, _, hx⟩
  · simp at hcs
    obtain ⟨rfl, rfl, rfl⟩ := hcs
    exact ⟨[], ⟨rfl, .inl rfl⟩, Nat.le_refl _, fun _ => ⟨rfl, rfl⟩⟩
  · simp at hcs
    obtain ⟨rfl, rfl, rfl⟩ := hcs
    simp only [if_true] at hmm
    subst hmm
    have hc9 : Try.prog.cellsOf 36 = 9 := by kernel_rfl
    rw [hc9] at hx
    obtain ⟨os, hos, hall⟩ := list_of (n := len) (p := fun i (o : Po) => ∃ cs, W.cells? 0 (x.add (i * 9)) 9 = some cs ∧ ∃ A k C, cs = poL o (.slice A k C) ∧ o.p.1.Fits ∧ I64 o.k ∧ DIn W A k C o.p.2) (fun i hi => by
      obtain ⟨cs, h1, h2⟩ := hx i (by omega)
      obtain ⟨o, A, k, C, hc, hr, hk, hD⟩ := op_of h2
      exact ⟨o, cs, h1, A, k, C, hc, hr, hk, hD⟩)
    refine ⟨os, ⟨hos, ?_⟩, hl, (fun h => by cases h)⟩
    by_cases h0 : len = 0
    · exact .inl h0
    · obtain ⟨b, off, spot⟩ := x
      obtain ⟨cs, h1, _⟩ := hx 0 (by omega)
      obtain ⟨_, hlen, hcell⟩ := World.cells?_some h1
      have hc0 := hcell 0 (by omega)
      rw [List.getElem?_eq_getElem (by omega)] at hc0
      have hs : spot = none := by simpa [Addr.add] using World.cell?_spot hc0
      subst hs
      refine .inr ⟨b, off, rfl, fun r t ht => ?_⟩
      obtain ⟨cs', h1', A, k, C, rfl, hf, hk, hD⟩ := hall r t ht
      refine ⟨A, k, C, hf, hk, hD, fun j v hv => ?_⟩
      obtain ⟨_, hlen', hcell'⟩ := World.cells?_some h1'
      have hj := (List.getElem?_eq_some_iff.1 hv).1
      have := hcell' j (by omega)
      rw [Addr.add_mid, Addr.add_mid, hv] at this
      exact this
end
end Go.Proofs.Ythmhphjblglcoaa
