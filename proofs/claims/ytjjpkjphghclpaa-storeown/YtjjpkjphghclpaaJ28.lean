/- Texts of this seat, one behind the other: StOwn, StOz. -/
import Derived.Test.YtjjpkjphghclpaaJ26
/- A row of blocks whose data are the call's own too; bytes that are written over; a store beside a zone of memory that is written over. -/
namespace Go.Proofs.Ytjjpkjphghclpaa
open Go.RowKit
set_option linter.unusedVariables false
set_option maxRecDepth 4000
theorem put_not_byte : 37 ≠ 5 := by decide
/-- A row of blocks, the data of each in a row of its own, all from Q on. -/
structure OwA (Q : Nat) (W wr : World) (A : Option Addr) (j C : Nat) (l : List Pt) (vs : List Value) : Prop where
  ow : wr.ownsRow 0 37 4 (.slice A j C) j (ptsC l vs)
  hi : ∀ g, (Value.slice A j C).ownBlock = some g → Q ≤ g
  ln : vs.length = l.length
  dat : ∀ (i : Nat) (p : Pt) (v : Value), l[i]? = some p → vs[i]? = some v → BkAt (fun x => Q ≤ x) wr v p.d ∧ p.d.length ≤ 10000 ∧ p.Fits
  bel : Below Q W wr
section
variable {Q : Nat} {W wr w1 w' : World} {A A' : Option Addr} {j C C' : Nat} {l : List Pt} {vs : List Value}
theorem OwA.start (W : World) : OwA W.heap.size W W none 0 0 [] [] := ⟨World.ownsRow_nil _ _ _ _, (fun g h => by cases h), rfl, fun i p v h => by simp at h, Below.refl _ _⟩
theorem OwA.out {O : Nat → Prop} (h : OwA Q W wr A j C l vs) (hq : Q ≤ wr.heap.size) (ho : Out O wr w') (hO : ∀ x, Q ≤ x → x < wr.heap.size → ¬ O x) (hb : Below Q W w') : OwA Q W w' A j C l vs :=
  ⟨ho.own h.ow (fun g hg => hO g (h.hi g hg) (h.ow.lt g hg).2), h.hi, h.ln, fun i p v h1 h2 => ⟨(h.dat i p v h1 h2).1.out ho (fun c cur hc hh => hO c hc (Array.getElem?_eq_some_iff.1 hh).1), (h.dat i p v h1 h2).2⟩, hb⟩
theorem OwA.below (h : OwA Q W wr A j C l vs) (hq : Q ≤ wr.heap.size) (hb : Below wr.heap.size wr w') : OwA Q W w' A j C l vs :=
  h.out hq (below_out Non hb) (fun _ _ _ e => e) (h.bel.trans (hb.mono hq))
/-- One more. -/
theorem OwA.more {p : Pt} {v : Value} (h : OwA Q W wr A j C l vs) (hq : Q ≤ wr.heap.size) (hv : BkAt (fun x => Q ≤ x) wr v p.d) (hd : p.d.length ≤ 10000 ∧ p.Fits)
    (hr : w'.ownsRow 0 37 4 (.slice A' (j + 1) C') (j + 1) (ptsC l vs ++ ptL p v)) (ho : Out (fun k => (Value.slice A j C).ownBlock = some k) wr w')
    (hbl : (Value.slice A' (j + 1) C').ownBlock = (Value.slice A j C).ownBlock ∨ ∀ g, (Value.slice A' (j + 1) C').ownBlock = some g → wr.heap.size ≤ g) :
    OwA Q W w' A' (j + 1) C' (l ++ [p]) (vs ++ [v]) := by
  have hty : ∀ c cur, wr.heap[c]? = some (.cells cur 5 (0, 0)) → ¬ (Value.slice A j C).ownBlock = some c := fun c cur hc hg => by
    obtain ⟨cur', hh⟩ := own_at_block h.ow hg
    rw [hc] at hh
    cases hh
  refine ⟨by rw [← ptsC_snoc l vs p v h.ln]; exact hr, fun g hg => ?_, by simp [h.ln], fun i q u h1 h2 => ?_, h.bel.trans (ho.below hq (fun k hk => h.hi k hk))⟩
  · rcases hbl with e | e
    · exact h.hi g (by rw [← e]; exact hg)
    · have := e g hg; omega
  · by_cases hlt : i < l.length
    · rw [List.getElem?_append_left hlt] at h1
      rw [List.getElem?_append_left (by rw [h.ln]; exact hlt)] at h2
      exact ⟨(h.dat i q u h1 h2).1.out ho (fun c cur _ hc => hty c cur hc), (h.dat i q u h1 h2).2⟩
    · have hi : i = l.length := by have := (List.getElem?_eq_some_iff.1 h1).1; simp at this; omega
      subst hi
      simp at h1
      rw [← h.ln] at h2
      simp at h2
      subst h1; subst h2
      exact ⟨hv.out ho (fun c cur _ hc => hty c cur hc), hd⟩
theorem OwA.pts (h : OwA Q W wr A j C l vs) (hn : l.length = j) (hm : j ≤ 1000) : PtsIn (fun x => Q ≤ x ∧ x < wr.heap.size) wr A j l := by
  refine own_pts h.ow ⟨h.ln, fun i p v h1 h2 => ?_⟩ hn hm (fun g hg => ?_)
  · obtain ⟨k1, k2, k3⟩ := h.dat i p v h1 h2
    obtain ⟨a, c, e⟩ := own_slice k1.1
    subst e
    refine ⟨a, _, c, rfl, k1.bin.1, k1.bin.2.1, k2, fun hn y hy => ?_, k3⟩
    have hg' : (Value.slice a p.d.length c).ownBlock = some y := by
      rcases k1.1.2 with ⟨hv, h0⟩ | ⟨g', cap, cur, hv, r⟩
      · omega
      · simp only [Value.slice.injEq] at hv; rw [hv.1] at hy ⊢; simp only [Option.map_some, Option.some.injEq] at hy; subst hy; rfl
    exact ⟨k1.2.1 y hg', (k1.1.lt y hg').2⟩
  · have hg' : (Value.slice A j C).ownBlock = some g := by
      rcases h.ow.2 with ⟨hv, h0⟩ | ⟨g', cap, cur, hv, r⟩
      · simp only [Value.slice.injEq] at hv; rw [hv.1] at hg; cases hg
      · simp only [Value.slice.injEq] at hv; rw [hv.1] at hg ⊢; simp only [Option.map_some, Option.some.injEq] at hg; subst hg; rfl
    exact ⟨h.hi g hg', (h.ow.lt g hg').2⟩
theorem OwA.cap (h : OwA Q W wr A j C l vs) : j ≤ C := (own_cap h.ow).1
end
/-- A block of bytes that may be written. -/
def ByBlk (W : World) (g L : Nat) : Prop := ∃ cs, Blk W g cs 5 ∧ ∀ k, k < L → ∃ x, cs[k]? = some (.int .u8 x) ∧ Fits8 x
section
variable {W W' : World} {g L : Nat}
theorem ByBlk.at (h : ByBlk W g L) {k : Nat} (hk : k < L) : ∃ x, W.cell? ⟨g, k, none⟩ = some (.int .u8 x) ∧ Fits8 x ∧ W.frozen? ⟨g, k, none⟩ = false := by
  obtain ⟨cs, hb, hc⟩ := h
  obtain ⟨x, h1, h2⟩ := hc k hk
  refine ⟨x, ?_, h2, frozen_of_row W g k _ _ hb⟩
  rw [cell_of_row W g k _ _ _ hb]
  simpa using h1
theorem ByBlk.out {O : Nat → Prop} (h : ByBlk W g L) (ho : Out O W W') (hg : ¬ O g) : ByBlk W' g L := by
  obtain ⟨cs, hb, hc⟩ := h
  exact ⟨cs, ho.blk hb hg, hc⟩
/-- A byte written, here or elsewhere. -/
theorem ByBlk.set (h : ByBlk W g L) (g' k : Nat) {y : Int} (hy : Fits8 y) : ByBlk (W.setCell ⟨g', k, none⟩ (.int .u8 y)) g L := by
  obtain ⟨cs, hb, hc⟩ := h
  by_cases e : g = g'
  · subst e
    refine ⟨_, hb.set k _, fun i hi => ?_⟩
    rw [List.getElem?_set]
    obtain ⟨x, h1, h2⟩ := hc i hi
    by_cases hik : k = i
    · rw [if_pos hik, if_pos (by subst hik; exact (List.getElem?_eq_some_iff.1 h1).1)]
      exact ⟨y, rfl, hy⟩
    · rw [if_neg hik]; exact ⟨x, h1, h2⟩
  · exact ⟨cs, hb.set_other e _, hc⟩
theorem BkAt.blk {O : Nat → Prop} {v : Value} {d : List Int} (h : BkAt O W v d) : ∃ A C, v = .slice A d.length C ∧ (d.length ≠ 0 → ∃ g, A = some ⟨g, 0, none⟩ ∧ O g ∧ g < W.heap.size ∧ ByBlk W g d.length) := by
  obtain ⟨a, c, e⟩ := own_slice h.1
  subst e
  refine ⟨a, c, rfl, fun hn => ?_⟩
  have hown := h.1
  rcases hown.2 with ⟨hv, h0⟩ | ⟨g, cap, cur, hv, r⟩
  · exact (hn h0).elim
  · simp only [Value.slice.injEq] at hv
    obtain ⟨rfl, _, _⟩ := hv
    have hg : (Value.slice (some ⟨g, 0, none⟩) d.length c).ownBlock = some g := rfl
    obtain ⟨cur', hh⟩ := own_at_block hown hg
    refine ⟨g, rfl, h.2.1 g hg, (hown.lt g hg).2, cur'.toList, by unfold Blk; simpa using hh, fun k hk => ?_⟩
    have hdk : d[k]? = some d[k] := by simp
    have := hown.cells hg k (.int .u8 d[k]) (by simp [u8s])
    rw [Addr.add_mid, Nat.zero_add, cell_of_row W g k _ _ _ hh] at this
    exact ⟨d[k], by simpa using this, h.2.2.1 _ (List.getElem_mem hk)⟩
end
/-- The row of the call's own while its data are written over: its headers stay. -/
structure Ow (Z : Nat → Prop) (W : World) (b : Nat) (vs : List Value) : Prop where
  row : ∃ cs, Blk W b cs 37 ∧ ∀ i v, vs[i]? = some v → cs[i * 4 + 3]? = some v
  rz : Z b
  dat : ∀ (i : Nat) (v : Value), vs[i]? = some v → ∃ A L C, v = .slice A L C ∧ L ≤ 10000 ∧ (L ≠ 0 → ∃ g, A = some ⟨g, 0, none⟩ ∧ Z g ∧ ByBlk W g L)
section
variable {Z : Nat → Prop} {W W' : World} {b : Nat} {vs : List Value}
theorem Ow.at (h : Ow Z W b vs) {i : Nat} {v : Value} (hv : vs[i]? = some v) : W.cell? ⟨b, i * 4 + 3, none⟩ = some v := by
  obtain ⟨cs, hb, hc⟩ := h.row
  rw [cell_of_row W b _ _ _ _ hb]
  simpa using hc i v hv
theorem Ow.out {O : Nat → Prop} (h : Ow Z W b vs) (ho : Out O W W') (hO : ∀ x, Z x → ¬ O x) : Ow Z W' b vs := by
  obtain ⟨cs, hb, hc⟩ := h.row
  refine ⟨⟨cs, ho.blk hb (hO b h.rz), hc⟩, h.rz, fun i v hv => ?_⟩
  obtain ⟨A, L, C, h1, h2, h3⟩ := h.dat i v hv
  exact ⟨A, L, C, h1, h2, fun hn => by obtain ⟨g, k1, k2, k3⟩ := h3 hn; exact ⟨g, k1, k2, k3.out ho (hO g k2)⟩⟩
theorem Ow.below (h : Ow Z W b vs) (hb : Below W.heap.size W W') : Ow Z W' b vs := h.out (below_out Non hb) (fun _ _ e => e)
theorem Ow.set (h : Ow Z W b vs) {g L : Nat} (hg : ByBlk W g L) (k : Nat) {y : Int} (hy : Fits8 y) : Ow Z (W.setCell ⟨g, k, none⟩ (.int .u8 y)) b vs := by
  obtain ⟨cs, hb, hc⟩ := h.row
  have hne : b ≠ g := fun e => by
    subst e
    obtain ⟨cs', hb', _⟩ := hg
    have e1 : W.heap[b]? = some (.cells cs.toArray 37 (0, 0)) := hb
    have e2 : W.heap[b]? = some (.cells cs'.toArray 5 (0, 0)) := hb'
    rw [e1] at e2
    simp only [Option.some.injEq, Obj.cells.injEq] at e2
    exact put_not_byte e2.2.1
  refine ⟨⟨cs, hb.set_other hne _, hc⟩, h.rz, fun i v hv => ?_⟩
  obtain ⟨A, L', C, h1, h2, h3⟩ := h.dat i v hv
  exact ⟨A, L', C, h1, h2, fun hn => by obtain ⟨g', k1, k2, k3⟩ := h3 hn; exact ⟨g', k1, k2, k3.set g k hy⟩⟩
theorem OwA.ow' {Q : Nat} {V : World} {b off n C : Nat} {l : List Pt} (h : OwA Q V W (some ⟨b, off, none⟩) n C l vs) (hn : l.length = n) : off = 0 ∧ Ow (fun x => Q ≤ x ∧ x < W.heap.size) W b vs := by
  have how := h.ow
  rcases how.2 with ⟨hv, h0⟩ | ⟨g, cap, cur, hv, r⟩
  · simp only [Value.slice.injEq] at hv; cases hv.1
  · simp only [Value.slice.injEq, Option.some.injEq, Addr.mk.injEq] at hv
    obtain ⟨⟨rfl, rfl, _⟩, _, _⟩ := hv
    have hg : (Value.slice (some ⟨b, 0, none⟩) n C).ownBlock = some b := rfl
    obtain ⟨cur', hh⟩ := own_at_block how hg
    refine ⟨rfl, ⟨cur'.toList, by unfold Blk; simpa using hh, fun i v hv => ?_⟩, ⟨h.hi b hg, (how.lt b hg).2⟩, fun i v hv => ?_⟩
    · have hil : i < l.length := by rw [← h.ln]; exact (List.getElem?_eq_some_iff.1 hv).1
      have := how.cells hg (i * 4 + 3) v (by rw [ptsC_get l vs i l[i] v 3 (by simp) hv (by decide)]; rfl)
      rw [Addr.add_mid, Nat.zero_add, cell_of_row W b _ _ _ _ hh] at this
      simpa using this
    · have hil : i < l.length := by rw [← h.ln]; exact (List.getElem?_eq_some_iff.1 hv).1
      obtain ⟨k1, k2, k3⟩ := h.dat i l[i] v (by simp) hv
      obtain ⟨A, C', e, hg'⟩ := k1.blk
      exact ⟨A, _, C', e, k2, fun hn => by obtain ⟨g, q1, q2, q3, q4⟩ := hg' hn; exact ⟨g, q1, ⟨q2, q3⟩, q4⟩⟩
end
end Go.Proofs.Ytjjpkjphghclpaa

/- A store beside a zone of memory that is written over; one block more of the call's own; Put of them. -/
namespace Go.Proofs.Ytjjpkjphghclpaa
open Go.RowKit
set_option linter.unusedVariables false
set_option maxRecDepth 4000
theorem xor8_fits {a b : Int} (ha : Fits8 a) (hb : Fits8 b) : Fits8 (bits .xor .u8 a b) := by
  unfold Fits8 at *
  rw [u8_xor a b ha.1 ha.2 hb.1 hb.2]
  have h1 : a.toNat < 2 ^ 8 := by omega
  have h2 : b.toNat < 2 ^ 8 := by omega
  have := Nat.xor_lt_two_pow h1 h2
  exact ⟨by omega, by omega⟩
structure RdZ (w W : World) (s : Sh) (D : Nat → Prop) (k : Bs) (st : St) (c : Nat) (A : Option Addr) (n C : Nat) (l : List Pt) (Z : Nat → Prop) : Prop where
  st : StV D W k st c
  bel : Below w.heap.size w W
  sh : Blk W w.heap.size (shC s) 23
  low : ∀ x, StO D k x → w.heap.size < x ∧ ¬ Z x
  pts : ∃ X : Nat → Prop, PtsIn X W A n l ∧ ∀ x, X x → ¬ StO D k x ∧ x < W.heap.size ∧ ¬ Z x
  cap : n ≤ C
  zlo : ∀ x, Z x → w.heap.size < x
section
variable {w W W' V wr : World} {s : Sh} {D : Nat → Prop} {k : Bs} {st st' : St} {c c' : Nat} {A Ao : Option Addr} {n C m Co j : Nat} {l lo : List Pt} {Z : Nat → Prop} {Q : Nat} {vs : List Value}
theorem RdZ.rd (h : RdZ w W s D k st c A n C l Z) : Rd w W s D k st c A n C l := by
  obtain ⟨X, h1, h2⟩ := h.pts
  exact ⟨h.st, h.bel, h.sh, fun x hx => (h.low x hx).1, ⟨X, h1, fun x hx => ⟨(h2 x hx).1, (h2 x hx).2.1⟩⟩, h.cap⟩
theorem RdZ.below (h : RdZ w W s D k st c A n C l Z) (hb : Below W.heap.size W W') : RdZ w W' s D k st c A n C l Z := by
  obtain ⟨X, h1, h2⟩ := h.pts
  exact ⟨h.st.under hb, h.bel.trans (hb.mono h.bel.size), h.sh.below hb h.sh.lt, h.low, ⟨X, h1.below hb, fun x hx => ⟨(h2 x hx).1, Nat.lt_of_lt_of_le (h2 x hx).2.1 hb.size, (h2 x hx).2.2⟩⟩, h.cap, h.zlo⟩
theorem RdZ.out (h : RdZ w W s D k st c A n C l Z) (ho : Out Z W W') : RdZ w W' s D k st c A n C l Z := by
  obtain ⟨X, h1, h2⟩ := h.pts
  exact ⟨h.st.out ho (fun x hx => (h.low x hx).2), h.bel.trans (ho.below h.bel.size (fun x hx => Nat.le_of_lt (h.zlo x hx))), ho.blk h.sh (fun hz => by have := h.zlo _ hz; omega), h.low, ⟨X, h1.out ho (fun x hx => (h2 x hx).2.2), fun x hx => ⟨(h2 x hx).1, Nat.lt_of_lt_of_le (h2 x hx).2.1 ho.size, (h2 x hx).2.2⟩⟩, h.cap, h.zlo⟩
theorem RdZ.poke (h : RdZ w W s D k st c A n C l Z) {g : Nat} (hg : Z g) (i : Nat) (u : Value) : RdZ w (W.setCell ⟨g, i, none⟩ u) s D k st c A n C l Z :=
  h.out ((out_one W g i u).mono (fun j e _ => by subst e; exact hg))
theorem RdZ.byte {b g L : Nat} {vs : List Value} (h : RdZ w W s D k st c A n C l Z) (ho : Ow Z W b vs) (hg : Z g) (hb : ByBlk W g L) (i : Nat) {y : Int} (hy : Fits8 y) : RdZ w (W.setCell ⟨g, i, none⟩ (.int .u8 y)).drew s D k st c A n C l Z ∧ Ow Z (W.setCell ⟨g, i, none⟩ (.int .u8 y)).drew b vs :=
  ⟨(h.poke hg i _).below (Below.refl _ _).drew, (ho.set hb i hy).below (Below.refl _ _).drew⟩
/-- Put of the blocks that are the call's own. -/
theorem own_put (h : RdB w W s D k st c A n C l Q) (ho : OwA Q V W Ao m Co lo vs) (hn : lo.length = m) (hm : m ≤ 1000) (hc : c + m < 100000) :
    Calls Try.prog 11 #[.pointer (some ⟨k.ps, 0, none⟩), .slice Ao m Co] W fun e w' => e = .returned (.int .u16 (putM st lo).1) ∧ ∃ D', RdZ w w' s D' k (putM st lo).2 (c + m) A n C l (fun x => Q ≤ x ∧ x < W.heap.size) ∧ ∀ b off, Ao = some ⟨b, off, none⟩ → off = 0 ∧ Ow (fun x => Q ≤ x ∧ x < W.heap.size) w' b vs := by
  refine (sput_of h.st Ao m Co lo _ (ho.pts hn hm) ho.cap (fun x hx => ⟨fun hs => by have := (h.low x hs).2; omega, hx.2⟩) hc).mono ?_
  rintro e w' ⟨rfl, D', hv, hD, hout⟩
  obtain ⟨X, h1, h2⟩ := h.pts
  have hlo := h.lo
  have hhi := h.hi
  have hw := h.sh.lt
  refine ⟨rfl, D', ⟨hv, h.bel.trans (hout.below h.bel.size (fun j hj => Nat.le_of_lt (h.low j hj).1)), hout.blk h.sh (fun hj => by have := (h.low _ hj).1; omega), fun x hx => ?_, ⟨X, h1.out hout (fun x hx => (h2 x hx).1), fun x hx => ⟨fun hs => ?_, by have := (h2 x hx).2; have := hout.size; omega, fun hz => by have := (h2 x hx).2; omega⟩⟩, h.cap, fun x hx => by omega⟩, fun b off e => ?_⟩
  · rcases hx with hx | hx
    · rcases hD x hx with h' | h'
      · have := h.low x (.inl h'); exact ⟨this.1, fun hz => by omega⟩
      · exact ⟨by omega, fun hz => by omega⟩
    · have := h.low x (.inr hx); exact ⟨this.1, fun hz => by omega⟩
  · rcases hs with hs | hs
    · rcases hD x hs with h' | h'
      · exact (h2 x hx).1 (.inl h')
      · have := (h2 x hx).2; omega
    · exact (h2 x hx).1 (.inr hs)
  · subst e
    obtain ⟨h0, how⟩ := ho.ow' hn
    exact ⟨h0, how.out hout (fun x hz hs => by have := (h.low x hs).2; omega)⟩
/-- One more of the call's own: a copy of the block's header, LentBytes, the header set, append. -/
theorem own_lent {p : Pt} {A1 : Option Addr} {L1 C1 : Nat} (h : RdB w wr s D k st c A n C l Q) (ho : OwA Q V wr Ao j Co lo vs) (hbin : BIn wr A1 L1 p.d) (hnil : A1 = none → L1 = 0 ∧ C1 = 0) (hL : L1 ≤ 10000) (hfit : p.Fits) (hj : j + 1 ≤ 1000) :
    Calls Try.prog 20 #[.slice A1 L1 C1] (wr.alloc (.cells #[.int .u32 p.t, .int .u64 p.b, .bool p.x, .slice A1 L1 C1] 37)) fun e w2 => ∃ a2 c2, e = .returned (.slice a2 L1 c2) ∧ Blk w2 wr.heap.size [.int .u32 p.t, .int .u64 p.b, .bool p.x, .slice A1 L1 C1] 37 ∧
      ∃ a9 c9 w9, (Builtin.append_ #[24, 24] 24 #[.slice Ao j Co, .slice (some ⟨(w2.setCell ⟨wr.heap.size, 3, none⟩ (.slice a2 L1 c2)).heap.size, 0, none⟩) 1 1]).run Try.prog ((w2.setCell ⟨wr.heap.size, 3, none⟩ (.slice a2 L1 c2)).alloc (.cells #[.int .u32 p.t, .int .u64 p.b, .bool p.x, .slice a2 L1 c2] 37)) = .ok (.slice a9 (j + 1) c9) w9 ∧
        RdB w w9 s D k st c A n C l Q ∧ ∃ vs', OwA Q V w9 a9 (j + 1) c9 (lo ++ [p]) vs' := by
  have hq := h.hi
  have hbV : Below wr.heap.size wr (wr.alloc (.cells #[.int .u32 p.t, .int .u64 p.b, .bool p.x, .slice A1 L1 C1] 37)) := (Below.refl _ _).alloc (Nat.le_refl _) _
  have hsz : wr.heap.size < (wr.alloc (.cells #[.int .u32 p.t, .int .u64 p.b, .bool p.x, .slice A1 L1 C1] 37)).heap.size := by simp
  have hg : Blk (wr.alloc (.cells #[.int .u32 p.t, .int .u64 p.b, .bool p.x, .slice A1 L1 C1] 37)) wr.heap.size [.int .u32 p.t, .int .u64 p.b, .bool p.x, .slice A1 L1 C1] 37 := Blk.new' rfl rfl
  refine (lentBytes_of A1 L1 C1 p.d _ (hbin.below hbV) hnil (by omega)).mono ?_
  rintro e w2 ⟨v, rfl, bk, b2⟩
  obtain ⟨a2, c2, e2⟩ := own_slice bk.1
  have hlen : p.d.length = L1 := hbin.1
  rw [hlen] at e2
  subst e2
  have hw3 : Below wr.heap.size wr (w2.setCell ⟨wr.heap.size, 3, none⟩ (.slice a2 L1 c2)) := (hbV.trans (b2.mono hbV.size)).trans (((out_one w2 wr.heap.size 3 (.slice a2 L1 c2))).below (by have := b2.size; omega) (fun j hj => by omega))
  have ho3 := ho.below hq hw3
  have h3 := h.below hw3
  have bk3 : BkAt (fun x => Q ≤ x) (w2.setCell ⟨wr.heap.size, 3, none⟩ (.slice a2 L1 c2)) (.slice a2 L1 c2) p.d := (bk.out (out_one w2 wr.heap.size 3 _) (fun x cur hx _ e => by omega)).mono (fun x hx _ => by omega)
  refine ⟨a2, c2, rfl, hg.below b2 hsz, ?_⟩
  obtain ⟨a9, c9, w9, e9, o9, b9, g9⟩ := app_put ho3.ow p a2 L1 c2 (by omega)
  exact ⟨a9, c9, w9, e9, h3.out (b9.mono (fun x hx _ => ho3.hi x hx)), _, ho3.more h3.hi bk3 ⟨by omega, hfit⟩ o9 b9 g9⟩
/-- Bytes alike or not. -/
theorem same_dec (a : Option Addr) (n c : Nat) (xs ys : List Int) (b : Option Addr) (m d : Nat) (w : World) (hx : BIn w a n xs) (hy : BIn w b m ys) :
    Calls Try.prog 14 #[.slice a n c, .slice b m d] w fun e w' => e = .returned (.bool (decide (xs = ys))) ∧ w' = w := by
  by_cases e : xs = ys
  · subst e
    simp only [decide_true]
    exact sameBytes_of a n c xs b m d w hx hy
  · have h1 := str_of w a n c xs hx
    have h2 := str_of w b m d ys hy
    have h3 := str_other hx.2.2.1 hy.2.2.1 e
    simp only [e, decide_false]
    go_enter Try.func14, Try.ntmps14
    go_wp2
    go_ret
    exact ⟨rfl, rfl⟩
/-- What is told was in the list. -/
theorem put_told {s : Sh} {l : List Pt} (hr : RightS s) (hf : ∀ p ∈ l, p.Fits) : Inv (putM (st0 s) l).2 ∧ ∀ n d, memT (putM (st0 s) l).2 n = some d → ∃ q ∈ l, q.n = n ∧ q.d = d := by
  by_cases ho : okP s l
  · obtain ⟨m, r, _, _, h3, _, h5, _⟩ := put_new hr hf ho
    refine ⟨h3, fun n d hd => ?_⟩
    rw [h5, upd_last] at hd
    cases hq : lastA n (l.take m) with
    | none => rw [hq] at hd; cases hd
    | some q =>
      rw [hq] at hd
      obtain ⟨q1, q2⟩ := lastA_name _ hq
      refine ⟨q, List.mem_of_mem_take q2, q1, ?_⟩
      by_cases hx : q.x = true
      · simp [hx] at hd
      · simp [hx] at hd; exact hd
  · rw [put_bad (st := st0 s) ho]
    exact ⟨st0_inv hr, fun n d hd => by cases hd⟩
end
end Go.Proofs.Ytjjpkjphghclpaa
