/- Texts of this seat, one behind the other: StLaw. -/
import Derived.Test.YtfcbcpjcmihooaaGreatP24
/- Things that the laws of the store have in common. -/
namespace Go.Proofs.YtfcbcpjcmihooaaGreat
open Go.RowKit
set_option linter.unusedVariables false
set_option maxRecDepth 4000
def shC (s : Sh) : List Value := [.int .i64 s.z, .int .i64 s.zb, .int .i64 s.b, .int .i64 s.r]
/-- A store beside a list of blocks to be put, and the shape, in the law's memory. -/
structure Rd (w W : World) (s : Sh) (D : Nat → Prop) (k : Bs) (st : St) (c : Nat) (A : Option Addr) (n C : Nat) (l : List Pt) : Prop where
  st : StV D W k st c
  bel : Below w.heap.size w W
  sh : Blk W w.heap.size (shC s) 23
  low : ∀ x, StO D k x → w.heap.size < x
  pts : ∃ X : Nat → Prop, PtsIn X W A n l ∧ ∀ x, X x → ¬ StO D k x ∧ x < W.heap.size
  cap : n ≤ C
section
variable {w W W' : World} {s : Sh} {D : Nat → Prop} {k : Bs} {st st' : St} {c c' : Nat} {A : Option Addr} {n C : Nat} {l : List Pt}
theorem Rd.below (h : Rd w W s D k st c A n C l) (hb : Below W.heap.size W W') : Rd w W' s D k st c A n C l := by
  obtain ⟨X, h1, h2⟩ := h.pts
  exact ⟨h.st.under hb, h.bel.trans (hb.mono h.bel.size), h.sh.below hb h.sh.lt, h.low, ⟨X, h1.below hb, fun x hx => ⟨(h2 x hx).1, Nat.lt_of_lt_of_le (h2 x hx).2 hb.size⟩⟩, h.cap⟩
theorem Rd.next (h : Rd w W s D k st c A n C l) (hs : Sv D W k st' c' W') : ∃ D', Rd w W' s D' k st' c' A n C l := by
  obtain ⟨D', hv, hD, ho⟩ := hs
  obtain ⟨X, h1, h2⟩ := h.pts
  have hw := h.sh.lt
  refine ⟨D', hv, h.bel.trans (ho.below h.bel.size (fun j hj => Nat.le_of_lt (h.low j hj))), ho.blk h.sh (fun hj => by have := h.low _ hj; omega), fun x hx => ?_, ⟨X, h1.out ho (fun x hx => (h2 x hx).1), fun x hx => ⟨fun hs => ?_, Nat.lt_of_lt_of_le (h2 x hx).2 ho.size⟩⟩, h.cap⟩
  · rcases hx with hx | hx
    · rcases hD x hx with h' | h'
      · exact h.low x (.inl h')
      · omega
    · exact h.low x (.inr hx)
  · rcases hs with hs | hs
    · rcases hD x hs with h' | h'
      · exact (h2 x hx).1 (.inl h')
      · have := (h2 x hx).2; omega
    · exact (h2 x hx).1 (.inr hs)
theorem Rd.put (h : Rd w W s D k st c A n C l) (hc : c + n < 100000) : Calls Tryz.prog 20 #[.pointer (some ⟨k.ps, 0, none⟩), .slice A n C] W fun e w' => e = .returned (.int .u16 (putM st l).1) ∧ ∃ D', Rd w w' s D' k (putM st l).2 (c + n) A n C l := by
  obtain ⟨X, h1, h2⟩ := h.pts
  refine (sput_of h.st A n C l X h1 h.cap h2 hc).mono ?_
  rintro e w' ⟨rfl, sv⟩
  exact ⟨rfl, h.next sv⟩
theorem Rd.at (h : Rd w W s D k st c A n C l) {i : Nat} (hi : i < n) : ∃ (p : Pt) (b off : Nat) (A1 : Option Addr) (L1 C1 : Nat), l[i]? = some p ∧ A = some ⟨b, off, none⟩ ∧ W.cell? ⟨b, off + i * 4, none⟩ = some (.int .u32 p.t) ∧ W.cell? ⟨b, off + i * 4 + 1, none⟩ = some (.int .u64 p.b) ∧ W.cell? ⟨b, off + i * 4 + 2, none⟩ = some (.bool p.x) ∧ W.cell? ⟨b, off + i * 4 + 3, none⟩ = some (.slice A1 L1 C1) ∧ BIn W A1 L1 p.d ∧ (A1 = none → L1 = 0 ∧ C1 = 0) ∧ L1 ≤ 10000 ∧ p.Fits := by
  obtain ⟨X, h1, h2⟩ := h.pts
  obtain ⟨p, b, off, hp, ha, _, A1, L1, C1, hcl, k1, k2, k3, _, k5⟩ := h1.at X hi
  exact ⟨p, b, off, A1, L1, C1, hp, ha, hcl 0 _ rfl, hcl 1 _ rfl, hcl 2 _ rfl, hcl 3 _ rfl, k1, k2, k3, k5⟩
/-- New, then Blocks. -/
theorem rd_blocks {V : World} {S : Nat} {a1 : Option Addr} {n1 c1 : Nat} {x1 : List Pt} (hw : w.heap.size < V.heap.size) (hb : Below w.heap.size w W) (hs : Blk W w.heap.size (shC s) 23) (hv : StV D W k st c) (hO : ∀ x, StO D k x → V.heap.size ≤ x) (hl : PtsIn (fun x => x < w.heap.size) w a1 n1 x1) (hS : S ≤ 10000) :
    Calls Tryz.prog 21 #[.int .i64 (S : Nat), .slice a1 n1 c1] W fun e w' => ∃ A C, e = .returned (.slice A n1 C) ∧ Rd w w' s D k st c A n1 C (x1.map (blkP S)) := by
  have hlt : ∀ x, StO D k x → x < W.heap.size := fun x hx => by rcases hx with hx | hx; exact hv.lt x hx; exact hv.kin x hx
  refine (sblocks_of S a1 n1 c1 x1 (fun x => x < w.heap.size) W (hl.below hb) hS (fun x hx => Nat.lt_of_lt_of_le hx hb.size)).mono ?_
  rintro e w' ⟨A, C, rfl, hr⟩
  refine ⟨A, C, rfl, ⟨hv.under hr.bel, hb.trans (hr.bel.mono hb.size), hs.below hr.bel hs.lt, fun x hx => by have := hO x hx; omega, ⟨_, hr.pts (by rw [List.length_map]; exact hl.1) hl.2.1, fun x hx => ⟨fun hso => ?_, hx.2⟩⟩, hr.cap⟩⟩
  rcases hx.1 with h | h
  · have := hO x hso; have h' : x < w.heap.size := h; omega
  · have := hlt x hso; omega
end
/-- The same, all of it below B: what lies from B on may be written. -/
structure RdB (w W : World) (s : Sh) (D : Nat → Prop) (k : Bs) (st : St) (c : Nat) (A : Option Addr) (n C : Nat) (l : List Pt) (B : Nat) : Prop where
  st : StV D W k st c
  bel : Below w.heap.size w W
  sh : Blk W w.heap.size (shC s) 23
  low : ∀ x, StO D k x → w.heap.size < x ∧ x < B
  pts : ∃ X : Nat → Prop, PtsIn X W A n l ∧ ∀ x, X x → ¬ StO D k x ∧ x < B
  cap : n ≤ C
  lo : w.heap.size < B
  hi : B ≤ W.heap.size
section
variable {w W W' : World} {s : Sh} {D : Nat → Prop} {k : Bs} {st st' : St} {c c' : Nat} {A : Option Addr} {n C : Nat} {l : List Pt} {B : Nat}
theorem Rd.b (h : Rd w W s D k st c A n C l) : RdB w W s D k st c A n C l W.heap.size :=
  ⟨h.st, h.bel, h.sh, fun x hx => ⟨h.low x hx, by rcases hx with hx | hx; exact h.st.lt x hx; exact h.st.kin x hx⟩, h.pts, h.cap, h.sh.lt, Nat.le_refl _⟩
theorem RdB.rd (h : RdB w W s D k st c A n C l B) : Rd w W s D k st c A n C l := by
  obtain ⟨X, h1, h2⟩ := h.pts
  exact ⟨h.st, h.bel, h.sh, fun x hx => (h.low x hx).1, ⟨X, h1, fun x hx => ⟨(h2 x hx).1, Nat.lt_of_lt_of_le (h2 x hx).2 h.hi⟩⟩, h.cap⟩
theorem RdB.below (h : RdB w W s D k st c A n C l B) (hb : Below W.heap.size W W') : RdB w W' s D k st c A n C l B := by
  obtain ⟨X, h1, h2⟩ := h.pts
  exact ⟨h.st.under hb, h.bel.trans (hb.mono h.bel.size), h.sh.below hb h.sh.lt, h.low, ⟨X, h1.below hb, h2⟩, h.cap, h.lo, Nat.le_trans h.hi hb.size⟩
theorem RdB.out (h : RdB w W s D k st c A n C l B) (ho : Out (fun x => B ≤ x) W W') : RdB w W' s D k st c A n C l B := by
  obtain ⟨X, h1, h2⟩ := h.pts
  have hlo := h.lo
  refine ⟨h.st.out ho (fun x hx => by have := (h.low x hx).2; omega), h.bel.trans (ho.below h.bel.size (fun j hj => by omega)), ho.blk h.sh (by omega), h.low, ⟨X, h1.out ho (fun x hx => by have := (h2 x hx).2; omega), h2⟩, h.cap, h.lo, Nat.le_trans h.hi ho.size⟩
theorem RdB.poke (h : RdB w W s D k st c A n C l B) {g : Nat} (hg : B ≤ g) (i : Nat) (u : Value) : RdB w (W.setCell ⟨g, i, none⟩ u) s D k st c A n C l B :=
  h.out ((out_one W g i u).mono (fun j e _ => by subst e; exact hg))
theorem RdB.bin {q : Pt} {A1 : Option Addr} {L1 : Nat} (h : RdB w W s D k st c A n C l B) (hb : BIn W A1 L1 q.d) (ha : L1 ≠ 0 → ∀ y, A1.map (·.block) = some y → y < B) (ho : Out (fun x => B ≤ x) W W') : BIn W' A1 L1 q.d :=
  hb.out ho (fun hn y hy => by have := ha hn y hy; omega)
theorem RdB.at (h : RdB w W s D k st c A n C l B) {i : Nat} (hi : i < n) : ∃ (p : Pt) (b off : Nat) (A1 : Option Addr) (L1 C1 : Nat), l[i]? = some p ∧ A = some ⟨b, off, none⟩ ∧ b < B ∧ W.cell? ⟨b, off + i * 4, none⟩ = some (.int .u32 p.t) ∧ W.cell? ⟨b, off + i * 4 + 1, none⟩ = some (.int .u64 p.b) ∧ W.cell? ⟨b, off + i * 4 + 2, none⟩ = some (.bool p.x) ∧ W.cell? ⟨b, off + i * 4 + 3, none⟩ = some (.slice A1 L1 C1) ∧ BIn W A1 L1 p.d ∧ (A1 = none → L1 = 0 ∧ C1 = 0) ∧ L1 ≤ 10000 ∧ p.Fits ∧ (L1 ≠ 0 → ∀ y, A1.map (·.block) = some y → y < B) := by
  obtain ⟨X, h1, h2⟩ := h.pts
  obtain ⟨p, b, off, hp, ha, hb, A1, L1, C1, hcl, k1, k2, k3, k4, k5⟩ := h1.at X hi
  exact ⟨p, b, off, A1, L1, C1, hp, ha, (h2 b hb).2, hcl 0 _ rfl, hcl 1 _ rfl, hcl 2 _ rfl, hcl 3 _ rfl, k1, k2, k3, k5, fun hn y hy => (h2 y (k4 hn y hy)).2⟩
end
end Go.Proofs.YtfcbcpjcmihooaaGreat
