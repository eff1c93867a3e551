/- Two devices side by side, the program's and the document's; what a call on both comes to. -/
import Derived.Test.YtlkpglppkpalgaaZIn
import Derived.Test.YtlkpglppkpalgaaZRCr
import Derived.Test.YtlkpglppkpalgaaZRRd
import Derived.Test.YtlkpglppkpalgaaZRZn
namespace Go.Proofs.Ytlkpglppkpalgaa
open Go.RowKit Go.Shelf
set_option linter.unusedVariables false
set_option maxRecDepth 4000

structure TwoO (w : World) (O1 O2 : Nat → Prop) (W : World) (p r : Nat) (s : Sh) (z1 z2 : List Zn) : Prop where
  d : Dv 69 O1 W p s z1
  r : Dv 71 O2 W r s z2
  o1 : ∀ x, O1 x → w.heap.size ≤ x ∧ x < W.heap.size
  o2 : ∀ x, O2 x → w.heap.size ≤ x ∧ x < W.heap.size
  ap : ∀ x, O1 x → ¬ O2 x
  bel : Below w.heap.size w W
def Two (w W : World) (p r : Nat) (s : Sh) (z1 z2 : List Zn) : Prop := ∃ O1 O2, TwoO w O1 O2 W p r s z1 z2
section
variable {w W W' : World} {O1 O2 : Nat → Prop} {p r : Nat} {s : Sh} {z1 z2 z1' z2' : List Zn}
theorem TwoO.under (h : TwoO w O1 O2 W p r s z1 z2) (hb : Below W.heap.size W W') : TwoO w O1 O2 W' p r s z1 z2 :=
  ⟨dv_under h.d hb, dv_under h.r hb, fun x hx => ⟨(h.o1 x hx).1, Nat.lt_of_lt_of_le (h.o1 x hx).2 hb.size⟩, fun x hx => ⟨(h.o2 x hx).1, Nat.lt_of_lt_of_le (h.o2 x hx).2 hb.size⟩, h.ap, h.bel.trans (hb.mono h.bel.size)⟩
theorem Two.under (h : Two w W p r s z1 z2) (hb : Below W.heap.size W W') : Two w W' p r s z1 z2 := by obtain ⟨O1, O2, h⟩ := h; exact ⟨O1, O2, h.under hb⟩
theorem dv_out {T : TypeId} {O S : Nat → Prop} {W W' : World} {p : Nat} {s : Sh} {zs : List Zn} (h : Dv T O W p s zs) (ho : Out S W W') (hS : ∀ x, O x → ¬ S x) : Dv T O W' p s zs := by
  obtain ⟨g, c, vs, hv⟩ := h; exact ⟨g, c, vs, hv.out ho hS⟩
theorem dv_mono {T : TypeId} {O O' : Nat → Prop} {W : World} {p : Nat} {s : Sh} {zs : List Zn} (h : Dv T O W p s zs) (hO : ∀ x, O x → x < W.heap.size → O' x) : Dv T O' W p s zs := by
  obtain ⟨g, c, vs, hv⟩ := h; exact ⟨g, c, vs, hv.mono hO⟩
/-- A call on the program's device. -/
theorem TwoO.stepD (h : TwoO w O1 O2 W p r s z1 z2) (st : Step 69 O1 W p s z1' W') : TwoO w (fun x => (O1 x ∨ W.heap.size ≤ x) ∧ x < W'.heap.size) O2 W' p r s z1' z2 := by
  obtain ⟨hd, ho⟩ := st
  have hs := h.bel.size
  have hs2 := ho.size
  refine ⟨dv_mono hd (fun x hx hlt => ⟨?_, hlt⟩), dv_out h.r ho (fun x h2 h1 => h.ap x h1 h2), fun x hx => ⟨?_, hx.2⟩, fun x hx => ⟨(h.o2 x hx).1, Nat.lt_of_lt_of_le (h.o2 x hx).2 hs2⟩, fun x hx h2 => ?_, h.bel.trans (ho.below hs (fun x hx => (h.o1 x hx).1))⟩
  · rcases hx with hx | hx
    · exact .inl hx
    · exact .inr hx.1
  · rcases hx.1 with hx | hx
    · exact (h.o1 x hx).1
    · omega
  · rcases hx.1 with hx | hx
    · exact h.ap x hx h2
    · have := (h.o2 x h2).2; omega
/-- A call on the document's device. -/
theorem TwoO.stepR (h : TwoO w O1 O2 W p r s z1 z2) (st : Step 71 O2 W r s z2' W') : TwoO w O1 (fun x => (O2 x ∨ W.heap.size ≤ x) ∧ x < W'.heap.size) W' p r s z1 z2' := by
  obtain ⟨hd, ho⟩ := st
  have hs := h.bel.size
  have hs2 := ho.size
  refine ⟨dv_out h.d ho (fun x h1 h2 => h.ap x h1 h2), dv_mono hd (fun x hx hlt => ⟨?_, hlt⟩), fun x hx => ⟨(h.o1 x hx).1, Nat.lt_of_lt_of_le (h.o1 x hx).2 hs2⟩, fun x hx => ⟨?_, hx.2⟩, fun x h1 hx => ?_, h.bel.trans (ho.below hs (fun x hx => (h.o2 x hx).1))⟩
  · rcases hx with hx | hx
    · exact .inl hx
    · exact .inr hx.1
  · rcases hx.1 with hx | hx
    · exact (h.o2 x hx).1
    · omega
  · rcases hx.1 with hx | hx
    · exact h.ap x h1 hx
    · have := (h.o1 x h1).2; omega
/-- Something else is written. -/
theorem TwoO.other {S : Nat → Prop} (h : TwoO w O1 O2 W p r s z1 z2) (ho : Out S W W') (h1 : ∀ x, O1 x → ¬ S x) (h2 : ∀ x, O2 x → ¬ S x) (hS : ∀ x, S x → w.heap.size ≤ x) : TwoO w O1 O2 W' p r s z1 z2 :=
  ⟨dv_out h.d ho h1, dv_out h.r ho h2, fun x hx => ⟨(h.o1 x hx).1, Nat.lt_of_lt_of_le (h.o1 x hx).2 ho.size⟩, fun x hx => ⟨(h.o2 x hx).1, Nat.lt_of_lt_of_le (h.o2 x hx).2 ho.size⟩, h.ap, h.bel.trans (ho.below h.bel.size hS)⟩
end
def opB (s : Sh) (o : Opn) : List Int := if o.k % 8 < 3 then blockB s.b.toNat o.f else o.f
def doZ (s : Sh) (zs : List Zn) (o : Opn) : List Zn := if o.k % 8 = 4 then zs else if o.k % 8 = 5 then flushZ zs else if o.k % 8 = 6 then resetZ zs o.z else if o.k % 8 = 7 then crashZ o.l zs else appZ s zs o.z (opB s o)
theorem Wf.does {s : Sh} {zs : List Zn} (h : Wf s zs) (o : Opn) : Wf s (doZ s zs o) := by
  unfold doZ
  split
  · exact h
  · split
    · exact h.flush
    · split
      · exact h.reset _
      · split
        · exact h.crash _
        · exact h.app _ _
theorem OpV.below {w w' : World} {o : Opn} {vs : List Value} (h : OpV w o vs) (hb : Below w.heap.size w w') : OpV w' o vs := by
  obtain ⟨A, L, C, B, M, E, h1, h2, h3, h4, h5⟩ := h
  exact ⟨A, L, C, B, M, E, h1, h2.below hb, h3, h4.below hb, h5⟩
theorem OpsIn.below {w w' : World} {a : Option Addr} {n : Nat} {os : List Opn} (h : OpsIn w a n os) (hb : Below w.heap.size w w') : OpsIn w' a n os := by
  obtain ⟨h1, h2⟩ := h
  refine ⟨h1, ?_⟩
  rcases h2 with h2 | ⟨b, off, ha, hc⟩
  · exact .inl h2
  · refine .inr ⟨b, off, ha, fun i o hi => ?_⟩
    obtain ⟨vs, h3, h4⟩ := hc i o hi
    refine ⟨vs, h3.below hb, fun j hj => ?_⟩
    have h5 := h4 j hj
    have hvl : vs.length = 5 := by obtain ⟨A, L, C, B, M, E, e, _⟩ := h3; rw [e]; rfl
    rw [List.getElem?_eq_getElem (by omega)] at h5
    rw [hb.cell (old_block h5), h5, List.getElem?_eq_getElem (by omega)]

def heavyB (os : List Opn) : Bool := decide (60 < os.length) || os.any (fun o => decide (200 < o.f.length) || decide (20 < o.l.length))
set_option maxHeartbeats 1000000 in
theorem heavy_of (a : Option Addr) (n c : Nat) (os : List Opn) (W : World) (h : OpsIn W a n os) : Calls Try.prog 10 #[.slice a n c] W fun e w' => e = .returned (.bool (heavyB os)) ∧ w' = W := by
  obtain ⟨R, hR⟩ : ∃ R, R = heavyB os := ⟨_, rfl⟩
  rw [← hR]
  have H : Hid (OpsIn W a n os ∧ R = heavyB os) := ⟨h, hR⟩
  have hlen := h.1
  clear h hR
  by_cases hn : 60 < n
  · have hn' : (60 : Int) < n := by omega
    have hT : R = true := by rw [H.out.2]; simp [heavyB, hlen, hn]
    clear H hlen
    subst hT
    go_enter Try.func10, Try.ntmps10
    go_wp2
    go_ret
    exact ⟨rfl, rfl⟩
  · have hn' : (n : Int) ≤ 60 := by omega
    go_enter Try.func10, Try.ntmps10
    go_wp2
    go_loopw [3] (fun x wr => ∃ i : Nat, x = .int .i64 i ∧ i ≤ n ∧ wr = W ∧ ∀ o ∈ os.take i, ¬ (200 < o.f.length ∨ 20 < o.l.length)) (fun x wr => n - (intOf x).toNat)
    case atStart => exact ⟨0, rfl, Nat.zero_le _, rfl, by simp⟩
    case round =>
      obtain ⟨i, rfl, hi, rfl, hno⟩ := hrel
      rcases Nat.lt_or_ge i n with hlt | hge
      · obtain ⟨o, ho⟩ : ∃ o, os[i]? = some o := ⟨os[i]'(by omega), by simp⟩
        obtain ⟨b, off, rfl, hc⟩ := H.out.1.2.resolve_left (by omega)
        obtain ⟨vs, ⟨A, L, C, B, M, E, rfl, hf, hfn, hls, hk⟩, hcell⟩ := hc i o ho
        have c3 : wr.cell? ⟨b, off + i * 5 + 3, none⟩ = some (.slice A L C) := hcell 3 (by decide)
        have c4 : wr.cell? ⟨b, off + i * 5 + 4, none⟩ = some (.slice B M E) := hcell 4 (by decide)
        have hi' : (i : Int) < n := by omega
        have hw : IntKind.i64.wrap ((i : Int) + 1) = (i : Int) + 1 := by rw [IntKind.wrap_i64]; omega
        have hL := hf.1
        have hM := hls.1
        have HN : Hid ((∀ o ∈ os.take i, ¬ (200 < o.f.length ∨ 20 < o.l.length)) ∧ os[i]? = some o ∧ o.f.length = L ∧ o.l.length = M) := ⟨hno, ho, hL, hM⟩
        have hany : (200 < L ∨ 20 < M) → R = true := by
          intro h
          rw [H.out.2]
          have : os.any (fun o => decide (200 < o.f.length) || decide (20 < o.l.length)) = true := List.any_eq_true.2 ⟨o, List.mem_of_getElem? ho, by simp; omega⟩
          simp [heavyB, this]
        have HA : Hid ((200 < L ∨ 20 < M) → R = true) := hany
        clear hcell hc hf hfn hls hk hno ho hL hM hany
        by_cases h1 : 200 < L
        · have h1' : (200 : Int) < L := by omega
          have hT := HA.out (.inl h1)
          clear HA H
          subst hT
          go_wp2
          go_ret
          exact ⟨rfl, rfl⟩
        · have h1' : (L : Int) ≤ 200 := by omega
          by_cases h2 : 20 < M
          · have h2' : (20 : Int) < M := by omega
            have hT := HA.out (.inr h2)
            clear HA H
            subst hT
            go_wp2
            go_ret
            exact ⟨rfl, rfl⟩
          · have h2' : (M : Int) ≤ 20 := by omega
            go_wp2
            go_roundw
            case rel =>
              refine ⟨i + 1, by simp, by omega, by first | rfl | trivial, ?_⟩
              rw [take_snoc HN.out.2.1]
              intro y hy
              rcases List.mem_append.1 hy with hy | hy
              · exact HN.out.1 y hy
              · rw [List.mem_singleton.1 hy, HN.out.2.2.1, HN.out.2.2.2]; omega
            case measure => simp [intOf]; omega
      · obtain rfl : i = n := by omega
        have hT : R = false := by
          rw [H.out.2]
          rw [List.take_of_length_le (by omega)] at hno
          have : os.any (fun o => decide (200 < o.f.length) || decide (20 < o.l.length)) = false := by
            rw [List.any_eq_false]
            intro o ho
            have := hno o ho
            simp; omega
          simp [heavyB, this]; omega
        clear H hno
        subst hT
        go_wp2
        go_ret
        exact ⟨rfl, rfl⟩
theorem heavy_no {os : List Opn} (h : heavyB os = false) : os.length ≤ 60 ∧ ∀ o ∈ os, o.f.length ≤ 200 ∧ o.l.length ≤ 20 := by
  simp only [heavyB, Bool.or_eq_false_iff, decide_eq_false_iff_not, List.any_eq_false] at h
  refine ⟨by omega, fun o ho => ?_⟩
  have := h.2 o ho
  simp at this
  omega
end Go.Proofs.Ytlkpglppkpalgaa
