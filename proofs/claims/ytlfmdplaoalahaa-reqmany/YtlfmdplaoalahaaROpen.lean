/- What comes in, in the walks' words: a request, requests, a map of lengths. -/
import Derived.Test.YtlfmdplaoalahaaRows
import Derived.Test.YtlfmdplaoalahaaRKnown
import Derived.Lib.SmallJoins
import Derived.ProofKit
import Derived.OpenShut
import Derived.Deep.Slices
import Derived.Maps.Keyed
import Derived.WideKeyArgs2
namespace Go.Proofs.Ytlfmdplaoalahaa
open Go.RowKit Go.ChangeShapes Go.WideShapes
set_option linter.unusedVariables false
set_option maxRecDepth 4000

theorem six_cells {w : World} {q : Nat} {r : Rq} {A : Option Addr} {k C : Nat} (h : Blk w q (reqL r A k C) 28) : w.cell? ⟨q, 0, none⟩ = some (.int .u16 r.fl) ∧ w.cell? ⟨q, 1, none⟩ = some (.int .u16 r.kd) ∧ w.cell? ⟨q, 2, none⟩ = some (.int .u64 r.ck) ∧ w.cell? ⟨q, 3, none⟩ = some (.int .u64 r.ofs) ∧ w.cell? ⟨q, 4, none⟩ = some (.int .u32 r.ln) ∧ w.cell? ⟨q, 5, none⟩ = some (.slice A k C) :=
  ⟨h.cell 0, h.cell 1, h.cell 2, h.cell 3, h.cell 4, h.cell 5⟩
section
variable {H : Type} {enc : TypeId × Value → H} {W : World}
abbrev Came (enc : TypeId × Value → H) (W : World) (t : TypeId) (v : Value) (d : DataW H) (p : List MemPlace) : Prop := DataW.Trod enc Try.prog W 0 (fun _ => true) true t v d p
theorem ints_cells {k : IntKind} {a : Option Addr} {len cap : Nat} {t e : TypeId} {fuel : Nat} {x : DataW H × List MemPlace} (ht : Try.prog.underlying t = some (.slice e)) (he : Try.prog.underlying e = some (.int k)) (hc : Try.prog.cellsOf e = 1)
    (h : DataW.trod enc Try.prog W 0 (fun _ => true) true fuel t [.slice a len cap] = some x) :
    (a = none ∧ len = 0 ∧ cap = 0) ∨ ∃ (b off : Nat) (zs : List Int), (len = 0 ∨ a = some ⟨b, off, none⟩) ∧ a ≠ none ∧ len ≤ cap ∧ cap ≤ maxLen ∧ zs.length = cap ∧ (∀ z ∈ zs, (Lit.int k z).wf = true) ∧ ∀ i, i < len → W.cell? ⟨b, off + i, none⟩ = some (.int k (zs.getD i 0)) := by
  rcases open_ints ht he hc h with ⟨hcs, _⟩ | ⟨x, l, c, zs, hcs, _, hl, hm, hz, _, hcell, hwz⟩
  · simp at hcs
    obtain ⟨rfl, rfl, rfl⟩ := hcs
    exact .inl ⟨rfl, rfl, rfl⟩
  · simp at hcs
    obtain ⟨rfl, rfl, rfl⟩ := hcs
    right
    have hz' : zs.length = cap := by simpa using hz
    by_cases h0 : len = 0
    · exact ⟨0, 0, zs, .inl h0, by simp, hl, hm, hz', hwz, fun i hi => by omega⟩
    · obtain ⟨b, off, spot⟩ := x
      have hc0 := hcell 0 (by omega)
      have hs : spot = none := by simpa [Addr.add] using World.cell?_spot hc0
      subst hs
      refine ⟨b, off, zs, .inr rfl, by simp, hl, hm, hz', hwz, fun i hi => ?_⟩
      have := hcell i (by omega)
      rwa [Addr.add_mid] at this
theorem bytes_of {a : Option Addr} {len cap : Nat} {fuel : Nat} {x : DataW H × List MemPlace} (h : DataW.trod enc Try.prog W 0 (fun _ => true) true fuel 22 [.slice a len cap] = some x) :
    ∃ zs, DIn W a len cap zs := by
  rcases ints_cells Try.underlying22 Try.underlying5 (by kernel_rfl) h with ⟨rfl, rfl, rfl⟩ | ⟨b, off, zs, ha, hn, hl, hm, hz, hwz, hcell⟩
  · exact ⟨[], bin_none _, Nat.le_refl _, fun _ => ⟨rfl, rfl⟩⟩
  · refine ⟨zs.take len, ⟨by simp [hz]; omega, Nat.le_trans hl hm, fun z hz' => ?_, ?_⟩, hl, fun h => absurd h hn⟩
    · have := bounds_u8 (hwz z (List.mem_of_mem_take hz'))
      unfold Fits8
      omega
    · rcases ha with ha | ha
      · exact .inl ha
      · exact .inr ⟨b, off, ha, fun i hi => by rw [hcell i hi]; simp [List.getD, hi]⟩
theorem u16_of {v : Value} {n : Nat} {y : DataW H × List MemPlace} (h : DataW.trod enc Try.prog W 0 (fun _ => true) true n 24 [v] = some y) : ∃ z, v = .int .u16 z ∧ Fits16 z := by
  obtain ⟨z, hv, _, hw⟩ := DataW.trod_int Try.underlying24 h
  have := bounds_u16 hw
  simp only [List.cons.injEq, and_true] at hv
  exact ⟨z, hv, by unfold Fits16; omega⟩
theorem u32_of {v : Value} {n : Nat} {y : DataW H × List MemPlace} (h : DataW.trod enc Try.prog W 0 (fun _ => true) true n 26 [v] = some y) : ∃ z, v = .int .u32 z ∧ Fits32 z := by
  obtain ⟨z, hv, _, hw⟩ := DataW.trod_int Try.underlying26 h
  have := bounds_u32 hw
  simp only [List.cons.injEq, and_true] at hv
  exact ⟨z, hv, by unfold Fits32; omega⟩
theorem u64_of {v : Value} {n : Nat} {y : DataW H × List MemPlace} (h : DataW.trod enc Try.prog W 0 (fun _ => true) true n 25 [v] = some y) : ∃ z, v = .int .u64 z ∧ FitsU z := by
  obtain ⟨z, hv, _, hw⟩ := DataW.trod_int Try.underlying25 h
  simp only [List.cons.injEq, and_true] at hv
  exact ⟨z, hv, fitsU hw⟩
theorem slice_form {t e : TypeId} {v : Value} {n : Nat} {y : DataW H × List MemPlace} (ht : Try.prog.underlying t = some (.slice e)) (h : DataW.trod enc Try.prog W 0 (fun _ => true) true n t [v] = some y) : ∃ a l c, v = .slice a l c := by
  rcases DataW.trod_slice ht h with ⟨hcs, _⟩ | ⟨a, l, c, _, _, _, _, hcs, _⟩
  · simp only [List.cons.injEq, and_true] at hcs; exact ⟨_, _, _, hcs⟩
  · simp only [List.cons.injEq, and_true] at hcs; exact ⟨_, _, _, hcs⟩
theorem req_of {cs : List Value} {n : Nat} {y : DataW H × List MemPlace} (h : DataW.trod enc Try.prog W 0 (fun _ => true) true n 28 cs = some y) : ∃ r A k C D, cs = reqL r A k C ∧ r.Fits ∧ DIn W A k C D := by
  obtain ⟨xs, m, _, _, hlen, hxl, hf⟩ := DataW.trod_struct Try.underlying28 h
  have hc6 : Try.prog.cellsOf 28 = 6 := by kernel_rfl
  rw [hc6] at hlen
  match cs, hlen, xs, hxl with
  | [v0, v1, v2, v3, v4, v5], _, [x0, x1, x2, x3, x4, x5], _ =>
    have h0 := hf 0 _ rfl
    have h1 := hf 1 _ rfl
    have h2 := hf 2 _ rfl
    have h3 := hf 3 _ rfl
    have h4 := hf 4 _ rfl
    have h5 := hf 5 _ rfl
    simp only [List.getElem?_cons_zero, List.getElem?_cons_succ] at h0 h1 h2 h3 h4 h5
    obtain ⟨fl, rfl, f0⟩ := u16_of h0
    obtain ⟨kd, rfl, f1⟩ := u16_of h1
    obtain ⟨ck, rfl, f2⟩ := u64_of h2
    obtain ⟨ofs, rfl, f3⟩ := u64_of h3
    obtain ⟨ln, rfl, f4⟩ := u32_of h4
    obtain ⟨A, k, C, rfl⟩ := slice_form Try.underlying22 h5
    obtain ⟨D, hD⟩ := bytes_of h5
    exact ⟨⟨fl, kd, ck, ofs, ln⟩, A, k, C, D, rfl, ⟨f0, f1, f2, f3, f4⟩, hD⟩
theorem open_request {r : Reach} {b0 : Nat} {v : Value} {d : DataW H} {p : List MemPlace} (hv : Value.okWide Try.prog W r b0 28 v) (h : Came enc W 28 v d p) :
    ∃ (r : Rq) (A : Option Addr) (k C : Nat) (D : List Int), v = .agg (reqL r A k C).toArray ∧ r.Fits ∧ DIn W A k C D := by
  obtain ⟨cs, rfl, hsz⟩ := okWide_struct Try.underlying28 hv
  obtain ⟨fuel, hf⟩ := h
  have hf' : DataW.trod enc Try.prog W 0 (fun _ => true) true fuel 28 cs.toList = some (d, p) := by simpa [Value.cells] using hf
  obtain ⟨r, A, k, C, D, hc, hr, hD⟩ := req_of hf'
  exact ⟨r, A, k, C, D, by rw [← hc], hr, hD⟩
theorem list_of {α : Type} {n : Nat} {p : Nat → α → Prop} (h : ∀ i, i < n → ∃ x, p i x) : ∃ l : List α, l.length = n ∧ ∀ i x, l[i]? = some x → p i x := by
  induction n with
  | zero => exact ⟨[], rfl, fun i x hx => by simp at hx⟩
  | succ n ih =>
    obtain ⟨l, hl, hp⟩ := ih (fun i hi => h i (by omega))
    obtain ⟨x, hx⟩ := h n (by omega)
    refine ⟨l ++ [x], by simp [hl], fun i y hy => ?_⟩
    by_cases hi : i < l.length
    · rw [List.getElem?_append_left hi] at hy
      exact hp i y hy
    · have hi' : i = l.length := by
        have := (List.getElem?_eq_some_iff.1 hy).1
        simp at this
        omega
      subst hi'
      simp at hy
      subst hy
      rw [hl]; exact hx
/-- Requests whose cells lie one behind the other. -/
def RsIn (w : World) (a : Option Addr) (n : Nat) (rs : List (Rq × List Int)) : Prop :=
  rs.length = n ∧ (n = 0 ∨ ∃ b off, a = some ⟨b, off, none⟩ ∧ ∀ (i : Nat) (p : Rq × List Int), rs[i]? = some p → ∃ A k C, p.1.Fits ∧ DIn w A k C p.2 ∧ ∀ (j : Nat) (v : Value), (reqL p.1 A k C)[j]? = some v → w.cell? ⟨b, off + i * 6 + j, none⟩ = some v)
theorem RsIn.below {w w' : World} {a : Option Addr} {n : Nat} {rs : List (Rq × List Int)} (h : RsIn w a n rs) (hb : Below w.heap.size w w') : RsIn w' a n rs := by
  obtain ⟨h1, h2⟩ := h
  refine ⟨h1, ?_⟩
  rcases h2 with h2 | ⟨b, off, ha, hc⟩
  · exact .inl h2
  · refine .inr ⟨b, off, ha, fun i p hp => ?_⟩
    obtain ⟨A, k, C, f, d, c⟩ := hc i p hp
    exact ⟨A, k, C, f, d.below hb, fun j v hj => by rw [hb.cell (old_block (c j v hj))]; exact c j v hj⟩
theorem open_requests {a : Option Addr} {len cap : Nat} {d : DataW H} {p : List MemPlace} (h : Came enc W 51 (.slice a len cap) d p) : ∃ rs, RsIn W a len rs ∧ len ≤ cap ∧ (a = none → len = 0 ∧ cap = 0) := by
  obtain ⟨fuel, hf⟩ := h
  have hf' : DataW.trod enc Try.prog W 0 (fun _ => true) true fuel 51 [.slice a len cap] = some (d, p) := by simpa [Value.cells] using hf
  rcases Deep.open_slice Try.underlying51 hf' with ⟨hcs, _⟩ | ⟨x, l, c, m, n, D, Pl, hcs, _, hl, hm, hmm, _, hx⟩
  · simp at hcs
    obtain ⟨rfl, rfl, rfl⟩ := hcs
    exact ⟨[], ⟨rfl, .inl rfl⟩, Nat.le_refl _, fun _ => ⟨rfl, rfl⟩⟩
  · simp at hcs
    obtain ⟨rfl, rfl, rfl⟩ := hcs
    simp only [if_true] at hmm
    subst hmm
    have hc6 : Try.prog.cellsOf 28 = 6 := by kernel_rfl
    rw [hc6] at hx
    obtain ⟨rs, hrs, hall⟩ := list_of (n := len) (p := fun i (t : Rq × List Int) => ∃ cs, W.cells? 0 (x.add (i * 6)) 6 = some cs ∧ ∃ A k C, cs = reqL t.1 A k C ∧ t.1.Fits ∧ DIn W A k C t.2) (fun i hi => by
      obtain ⟨cs, h1, h2⟩ := hx i (by omega)
      obtain ⟨r, A, k, C, D, hc, hr, hD⟩ := req_of h2
      exact ⟨(r, D), cs, h1, A, k, C, hc, hr, hD⟩)
    refine ⟨rs, ⟨hrs, ?_⟩, hl, (fun h => by cases h)⟩
    by_cases h0 : len = 0
    · exact .inl h0
    · obtain ⟨b, off, spot⟩ := x
      obtain ⟨cs, h1, _⟩ := hx 0 (by omega)
      obtain ⟨_, hlen, hcell⟩ := World.cells?_some h1
      have hc0 := hcell 0 (by omega)
      rw [List.getElem?_eq_getElem (by omega)] at hc0
      have hs : spot = none := by simpa [Addr.add] using World.cell?_spot hc0
      subst hs
      refine .inr ⟨b, off, rfl, fun r t ht => ?_⟩
      obtain ⟨cs', h1', A, k, C, rfl, hf, hD⟩ := hall r t ht
      refine ⟨A, k, C, hf, hD, fun j v hv => ?_⟩
      obtain ⟨_, hlen', hcell'⟩ := World.cells?_some h1'
      have hj := (List.getElem?_eq_some_iff.1 hv).1
      have := hcell' j (by omega)
      rw [Addr.add_mid, Addr.add_mid, hv] at this
      exact this
/-- What a datum has for a number. -/
def atN (D : DataW H) (k : Int) : Int := match D.atKey (.int .u64 k) (.lit (.int .u32 0)) with | .lit (.int .u32 c) => if 0 ≤ c ∧ c < 4294967296 then c else 0 | _ => 0
theorem atN_fits (D : DataW H) (k : Int) : Fits32 (atN D k) := by
  unfold atN
  split
  · split
    · assumption
    · unfold Fits32; omega
  · unfold Fits32; omega
theorem run_lookup_none (w : World) (k : Int) (hk : FitsU k) : (Instr.lookup 41 (.map none) (.int .u64 k) false).run Try.prog w = .ok (.int .u32 0) w := by
  rcases Try.key_u64.find w (key_of hk) [] (by simp) with ⟨h1, _⟩ | ⟨j, e0, _, h2, _⟩
  · simp [Instr.lookup, run_underlying Try.underlying41, Try.key_u64.check w _ (key_of hk), h1, Try.zeroV_u32 w, Result.andThen]
  · simp at h2
/-- A map of lengths that came in: what it has, and how many. -/
theorem open_rmap {m : Option Nat} {d : DataW H} {p : List MemPlace} (h : Came enc W 41 (.map m) d p) : ∃ (f : Int → Int) (L : Nat), MIn W (.map m) f ∧ ∀ ty, (Builtin.len_ #[41] ty #[.map m]).run Try.prog W = .ok (.int .i64 (L : Int)) W := by
  obtain ⟨fuel, hf⟩ := h
  have hf' : DataW.trod enc Try.prog W 0 (fun _ => true) true fuel 41 [.map m] = some (d, p) := by simpa [Value.cells] using hf
  rcases WideElems.open_map Try.underlying41 hf' with ⟨hcs, _⟩ | ⟨b, es, clock, n, _, hcs, hb, _, F, _⟩
  · simp at hcs
    subst hcs
    exact ⟨fun _ => 0, 0, ⟨fun _ => (by show Fits32 0; unfold Fits32; omega), none, rfl, (fun b e => by cases e), fun w' _ k hk => run_lookup_none w' k hk⟩, fun ty => by simp [Builtin.len_, run_underlying Try.underlying41, goInt]⟩
  · simp at hcs
    subst hcs
    obtain ⟨D, hD⟩ : ∃ D : DataW H, D = .map ((es.toList.map (WideElems.rg Try.prog 25 (WideElems.elemAt enc Try.prog W 0 (fun _ => true) true n 26))).foldr DataW.insert []) := ⟨_, rfl⟩
    refine ⟨atN D, es.size, ⟨atN_fits D, some b, rfl, (fun b' e => by cases e; exact (Array.getElem?_eq_some_iff.1 hb).1), fun w' hs k hk => ?_⟩, fun ty => by simp [Builtin.len_, run_underlying Try.underlying41, MapKept.run_getObj_map hb, goInt]⟩
    rcases Maps.fit_look false Try.key_u64 Try.underlying41 (Try.zeroV_u32 w') (by rw [hs b rfl]; exact hb) F (key_of hk) with ⟨hrun, _, hat⟩ | ⟨e0, y, _, _, hrun, hRv, hat, _⟩
    · have h1 := hat (.lit (.int .u32 0))
      rw [← hD] at h1
      rw [hrun]
      unfold atN
      rw [h1]
      rfl
    · obtain ⟨c, hv, rfl, hw⟩ := WideElems.elemAt_int Try.underlying26 hRv
      have h1 := hat (.lit (.int .u32 0))
      rw [← hD] at h1
      have hb := bounds_u32 hw
      rw [hrun, hv]
      unfold atN
      rw [h1]
      simp only [if_pos (show 0 ≤ c ∧ c < 4294967296 by omega)]
      rfl
end
end Go.Proofs.Ytlfmdplaoalahaa
