/- Texts of this seat, one behind the other: StKn, StR, StH, StOpen. -/
import Derived.Test.YtncnkpnfmbgifaaGreatP23
import Derived.Test.YtncnkpnfmbgifaaGreatP21
import Derived.Test.YtncnkpnfmbgifaaGreatP22
import Derived.Test.YtncnkpnfmbgifaaGreatP13
import Derived.Test.YtncnkpnfmbgifaaGreatRows
import Derived.Lib.SmallJoins
import Derived.ProofKit
import Derived.OpenShut
import Derived.Deep.Slices
/- What one call of Map, Dev, Seq of the store does; the chapter's example holds. -/
namespace Go.Proofs.YtncnkpnfmbgifaaGreat
open Go.RowKit
set_option linter.unusedVariables false
set_option maxRecDepth 4000
section
variable {D : Nat → Prop} {W : World} {k : Bs} {st : St} {c : Nat}
theorem smap_of (h : StV D W k st c) : Calls Tryz.prog 19 #[.pointer (some ⟨k.ps, 0, none⟩)] W fun e w' => e = .returned (.pointer (some ⟨k.pm, 0, none⟩)) ∧ w' = W := by
 obtain ⟨_, _, s2, _⟩ := h.cells
 clear h
 go_enter Tryz.func19, Tryz.ntmps19
 go_wp2
 go_ret
 exact ⟨rfl, rfl⟩
theorem sdev_of (h : StV D W k st c) : Calls Tryz.prog 25 #[.pointer (some ⟨k.ps, 0, none⟩)] W fun e w' => e = .returned (.pointer (some ⟨k.pd, 0, none⟩)) ∧ w' = W := by
 obtain ⟨s0, _⟩ := h.cells
 clear h
 go_enter Tryz.func25, Tryz.ntmps25
 go_wp2
 go_ret
 exact ⟨rfl, rfl⟩
theorem sseq_of (h : StV D W k st c) : Calls Tryz.prog 30 #[.pointer (some ⟨k.ps, 0, none⟩)] W fun e w' => e = .returned (.int .u64 st.q) ∧ w' = W := by
 obtain ⟨_, _, _, s3, _⟩ := h.cells
 clear h
 go_enter Tryz.func30, Tryz.ntmps30
 go_wp2
 go_ret
 exact ⟨rfl, rfl⟩
theorem sput_new (h : StV D W k st c) (p : Pt) (a : Option Addr) (n cc : Nat) (hp : p.Fits) (hn : n ≤ 10000) (hnil : a = none → n = 0 ∧ cc = 0) {V : World} {g : Nat} {B : Nat} (hb : Below W.heap.size W V) (hB : B = W.heap.size) (hg : Blk V g [.int .u32 p.t, .int .u64 p.b, .bool p.x, .slice a n cc] 71) (hgB : B ≤ g) (hd : BIn V a n p.d) (hda : n ≠ 0 → ∀ y, a.map (·.block) = some y → B ≤ y ∧ y < V.heap.size) (hc : c + 1 < 100000) :
  Calls Tryz.prog 34 #[.pointer (some ⟨k.ps, 0, none⟩), .slice (some ⟨g, 0, none⟩) 1 1] V fun e w' => e = .returned (.int .u16 (putM st [p]).1) ∧ Sv D W k (putM st [p]).2 (c + 1) w' := by
 subst hB
 have hlt : ∀ x, StO D k x → x < W.heap.size := fun x hx => by rcases hx with hx | hx; exact h.lt x hx; exact h.kin x hx
 refine (sput_of (h.under hb) (some ⟨g, 0, none⟩) 1 1 [p] (fun x => W.heap.size ≤ x ∧ x < V.heap.size) ⟨rfl, by omega, .inr ⟨g, 0, rfl, ⟨hgB, hg.lt⟩, fun i q hq => ?_⟩⟩ (Nat.le_refl _) (fun x hx => ⟨fun hs => ?_, hx.2⟩) hc).mono ?_
 ·have hi : i = 0 := by have := (List.getElem?_eq_some_iff.1 hq).1; simpa using this
  subst hi
  simp only [List.getElem?_cons_zero, Option.some.injEq] at hq
  subst hq
  exact ⟨a, n, cc, fun j v hv => by rw [show 0 + 0 * 4 + j = j by omega, hg.cell]; exact hv, hd, hnil, hn, fun h0 y hy => hda h0 y hy, hp⟩
 ·have := hlt x hs; have := hx.1; omega
 ·rintro e w' ⟨rfl, sv⟩
  exact ⟨rfl, sv.from hb⟩
end
end Go.Proofs.YtncnkpnfmbgifaaGreat

/- A row of blocks to be put, of the call's own; what one call of the laws' Blocks does. -/
namespace Go.Proofs.YtncnkpnfmbgifaaGreat
open Go.RowKit
set_option linter.unusedVariables false
set_option maxRecDepth 4000
def PtD (X : Nat → Prop) (w : World) (p : Pt) (v : Value) : Prop := ∃ A L C, v = .slice A L C ∧ BIn w A L p.d ∧ (A = none → L = 0 ∧ C = 0) ∧ L ≤ 10000 ∧ (L ≠ 0 → ∀ y, A.map (·.block) = some y → X y) ∧ p.Fits
def PsD (X : Nat → Prop) (w : World) (l : List Pt) (vs : List Value) : Prop := vs.length = l.length ∧ ∀ (i : Nat) (p : Pt) (v : Value), l[i]? = some p → vs[i]? = some v → PtD X w p v
def ptsC : List Pt → List Value → List Value
 | p :: l, v :: vs => ptL p v ++ ptsC l vs
 | _, _ => []
theorem ptsC_snoc : ∀ (l : List Pt) (vs : List Value) (p : Pt) (v : Value), vs.length = l.length → ptsC l vs ++ ptL p v = ptsC (l ++ [p]) (vs ++ [v])
 | [], [], p, v, _ => by simp [ptsC]
 | [], _ :: _, _, _, h => by simp at h
 | _ :: _, [], _, _, h => by simp at h
 | q :: l, u :: vs, p, v, h => by
  have := ptsC_snoc l vs p v (by simpa using h)
  simp [ptsC, ← this]
theorem ptsC_get : ∀ (l : List Pt) (vs : List Value) (i : Nat) (p : Pt) (v : Value) (j : Nat), l[i]? = some p → vs[i]? = some v → j < 4 → (ptsC l vs)[i * 4 + j]? = (ptL p v)[j]?
 | [], _, i, p, v, j, h, _, _ => by simp at h
 | _ :: _, [], i, p, v, j, _, h, _ => by simp at h
 | q :: l, u :: vs, 0, p, v, j, h1, h2, hj => by
  simp at h1 h2; subst h1; subst h2
  simp only [ptsC, Nat.zero_mul, Nat.zero_add]
  rw [List.getElem?_append_left (by simp [ptL]; omega)]
 | q :: l, u :: vs, i + 1, p, v, j, h1, h2, hj => by
  have := ptsC_get l vs i p v j (by simpa using h1) (by simpa using h2) hj
  simp only [ptsC]
  rw [List.getElem?_append_right (by simp [ptL]; omega)]
  rw [show (i + 1) * 4 + j - (ptL q u).length = i * 4 + j by simp [ptL]; omega]
  exact this
section
variable {X Y O : Nat → Prop} {w w' : World} {l : List Pt} {vs : List Value}
theorem PtD.out {p : Pt} {v : Value} (h : PtD X w p v) (ho : Out O w w') (hO : ∀ x, X x → ¬ O x) : PtD X w' p v := by
 obtain ⟨A, L, C, h1, h2, h3, h4, h5, h6⟩ := h
 exact ⟨A, L, C, h1, h2.out ho (fun hn y hy => hO y (h5 hn y hy)), h3, h4, h5, h6⟩
theorem PtD.wider {p : Pt} {v : Value} (h : PtD X w p v) (hY : ∀ x, X x → Y x) : PtD Y w p v := by
 obtain ⟨A, L, C, h1, h2, h3, h4, h5, h6⟩ := h
 exact ⟨A, L, C, h1, h2, h3, h4, fun hn y hy => hY y (h5 hn y hy), h6⟩
theorem PsD.out (h : PsD X w l vs) (ho : Out O w w') (hO : ∀ x, X x → ¬ O x) : PsD X w' l vs := ⟨h.1, fun i p v h1 h2 => (h.2 i p v h1 h2).out ho hO⟩
theorem PsD.below (h : PsD X w l vs) (hb : Below w.heap.size w w') : PsD X w' l vs := h.out (below_out Non hb) (fun _ _ e => e)
theorem PsD.wider (h : PsD X w l vs) (hY : ∀ x, X x → Y x) : PsD Y w l vs := ⟨h.1, fun i p v h1 h2 => (h.2 i p v h1 h2).wider hY⟩
theorem PsD.nil : PsD X w [] [] := ⟨rfl, fun i p v h => by simp at h⟩
theorem PsD.snoc (h : PsD X w l vs) {p : Pt} {v : Value} (hd : PtD X w p v) : PsD X w (l ++ [p]) (vs ++ [v]) := by
 refine ⟨by simp [h.1], fun i q u h1 h2 => ?_⟩
 by_cases hlt : i < l.length
 ·rw [List.getElem?_append_left hlt] at h1
  rw [List.getElem?_append_left (by rw [h.1]; exact hlt)] at h2
  exact h.2 i q u h1 h2
 ·have hi : i = l.length := by have := (List.getElem?_eq_some_iff.1 h1).1; simp at this; omega
  subst hi
  simp at h1
  rw [← h.1] at h2
  simp at h2
  subst h1; subst h2
  exact hd
theorem own_pts {B n C : Nat} {A : Option Addr} (ho : w.ownsRow B 71 4 (.slice A n C) n (ptsC l vs)) (hd : PsD X w l vs) (hn : l.length = n) (hm : n ≤ 1000) (hX : ∀ g, A.map (·.block) = some g → X g) : PtsIn X w A n l := by
 refine ⟨hn, hm, ?_⟩
 rcases ho.2 with ⟨hv, h0⟩ | ⟨g, cap, cur, hv, r⟩
 ·exact .inl h0
 ·simp only [Value.slice.injEq] at hv
  obtain ⟨rfl, _, _⟩ := hv
  refine .inr ⟨g, 0, rfl, hX g rfl, fun i p hp => ?_⟩
  have hi := (List.getElem?_eq_some_iff.1 hp).1
  obtain ⟨v, hv⟩ : ∃ v, vs[i]? = some v := ⟨vs[i]'(by rw [hd.1]; exact hi), by simp⟩
  obtain ⟨A, L, C', rfl, h2, h3, h4, h5, h6⟩ := hd.2 i p v hp hv
  refine ⟨A, L, C', fun j u hu => ?_, h2, h3, h4, h5, h6⟩
  have hj : j < 4 := by have := (List.getElem?_eq_some_iff.1 hu).1; simpa [ptL] using this
  have := ho.cells (g := g) rfl (i * 4 + j) u (by rw [ptsC_get l vs i p _ j hp hv hj]; exact hu)
  rw [Addr.add_mid] at this
  rw [show 0 + i * 4 + j = 0 + (i * 4 + j) by omega]
  exact this
end
theorem Tryz.zero_put : (Tryz.prog.info? 71).map (fun i => (i.zero, i.size, i.bytes)) = some (some (.agg #[.int .u32 0, .int .u64 0, .bool false, .slice none 0 0]), 4, 48) := by kernel_rfl
theorem ptL_one (p : Pt) (a : Option Addr) (n c : Nat) : ∀ v ∈ ptL p (.slice a n c), v.oneCell' = true := by
 intro v hv; simp only [ptL, List.mem_cons, List.not_mem_nil, or_false] at hv; rcases hv with rfl | rfl | rfl | rfl <;> rfl
theorem app_put {W : World} {a : Option Addr} {n c : Nat} {xs : List Value} (h : W.ownsRow 0 71 4 (.slice a n c) n xs) (p : Pt) (a1 : Option Addr) (n1 c1 : Nat) (hle : n + 1 ≤ 100000) :
  ∃ a' c' w', (Builtin.append_ #[72, 72] 72 #[.slice a n c, .slice (some ⟨W.heap.size, 0, none⟩) 1 1]).run Tryz.prog (W.alloc (.cells #[.int .u32 p.t, .int .u64 p.b, .bool p.x, .slice a1 n1 c1] 71)) = .ok (.slice a' (n + 1) c') w' ∧ w'.ownsRow 0 71 4 (.slice a' (n + 1) c') (n + 1) (xs ++ ptL p (.slice a1 n1 c1)) ∧ Out (fun k => (Value.slice a n c).ownBlock = some k) W w' ∧ ((Value.slice a' (n + 1) c').ownBlock = (Value.slice a n c).ownBlock ∨ ∀ g, (Value.slice a' (n + 1) c').ownBlock = some g → W.heap.size ≤ g) := by
 have h1 := h.alloc (.cells (ptL p (.slice a1 n1 c1)).toArray 71)
 obtain ⟨v', w', hrun, hown', hgrow, hbl⟩ := run_app (e := 71) (t := 72) (ty := 72) (size := 4) (bytes := 48) Tryz.underlying72 Tryz.zero_put rfl (by decide) (by decide) h1 ⟨W.heap.size, 0, none⟩ 1 1 (ptL p (.slice a1 n1 c1)) rfl (by
  intro j u hj
  rw [Addr.add_mid, Nat.zero_add, World.cell?_alloc_mark]
  simpa using hj) (ptL_one p a1 n1 c1) (by omega)
 obtain ⟨a', c', rfl⟩ : ∃ a' c', v' = .slice a' (n + 1) c' := own_slice hown'
 refine ⟨a', c', w', hrun, hown', ((Out.refl (fun k => (Value.slice a n c).ownBlock = some k) W).alloc _).grown hgrow (fun k hk => .inl hk), ?_⟩
 rcases hbl with h | h
 ·exact .inl h
 ·exact .inr fun g hg => by have := h g hg; simp at this; omega
structure RS (X : Nat → Prop) (q : Nat) (W wr : World) (A : Option Addr) (j C : Nat) (l : List Pt) : Prop where
 ow : ∃ vs, wr.ownsRow 0 71 4 (.slice A j C) j (ptsC l vs) ∧ ∃ Z : Nat → Prop, PsD Z wr l vs ∧ (∀ x, Z x → (X x ∨ q ≤ x) ∧ x < wr.heap.size) ∧ (∀ g, (Value.slice A j C).ownBlock = some g → ¬ Z g)
 hi : ∀ g, (Value.slice A j C).ownBlock = some g → q ≤ g
 bel : Below q W wr
section
variable {X : Nat → Prop} {q : Nat} {W wr w' : World} {A : Option Addr} {j C : Nat} {l : List Pt}
theorem RS.start (X : Nat → Prop) (W : World) : RS X W.heap.size W W none 0 0 [] := ⟨⟨[], World.ownsRow_nil _ _ _ _, fun _ => False, PsD.nil, fun _ h => h.elim, fun _ _ h => h⟩, (fun g h => by cases h), Below.refl _ _⟩
theorem RS.below (h : RS X q W wr A j C l) (hq : q ≤ wr.heap.size) (hb : Below wr.heap.size wr w') : RS X q W w' A j C l := by
 obtain ⟨⟨vs, ho, Z, h1, h2, h3⟩, hi, bel⟩ := h
 exact ⟨⟨vs, (below_out Non hb).own ho (fun _ _ e => e), Z, h1.below hb, fun x hx => ⟨(h2 x hx).1, Nat.lt_of_lt_of_le (h2 x hx).2 hb.size⟩, h3⟩, hi, bel.trans (hb.mono hq)⟩
theorem RS.more {A' : Option Addr} {C' : Nat} {p : Pt} {a1 : Option Addr} {n1 c1 : Nat} {w1 : World} (h : RS X q W wr A j C l) (hq : q ≤ wr.heap.size) (hX : ∀ x, X x → x < q) (hb1 : Below wr.heap.size wr w1)
  (hd : BIn w1 a1 n1 p.d ∧ (a1 = none → n1 = 0 ∧ c1 = 0) ∧ n1 ≤ 10000 ∧ p.Fits) (ha : n1 ≠ 0 → ∀ y, a1.map (·.block) = some y → X y ∨ (wr.heap.size ≤ y ∧ y < w1.heap.size))
  (hrun : ∃ w2, w2 = w' ∧ ∀ vs, w1.ownsRow 0 71 4 (.slice A j C) j (ptsC l vs) → w2.ownsRow 0 71 4 (.slice A' (j + 1) C') (j + 1) (ptsC l vs ++ ptL p (.slice a1 n1 c1))) (ho : Out (fun k => (Value.slice A j C).ownBlock = some k) w1 w') (hbl : (Value.slice A' (j + 1) C').ownBlock = (Value.slice A j C).ownBlock ∨ ∀ g, (Value.slice A' (j + 1) C').ownBlock = some g → w1.heap.size ≤ g) :
  RS X q W w' A' (j + 1) C' (l ++ [p]) := by
 have hw := h.below hq hb1
 obtain ⟨⟨vs, how, Z, h1, h2, h3⟩, hi, bel⟩ := h
 obtain ⟨w2, rfl, hr⟩ := hrun
 have ow1 := (below_out Non hb1).own how (fun _ _ e => e)
 have hlt : ∀ g, (Value.slice A j C).ownBlock = some g → g < wr.heap.size := fun g hg => (how.lt g hg).2
 have hs1 := hb1.size
 have hs2 := ho.size
 have hx : ∀ y, n1 ≠ 0 → a1.map (·.block) = some y → (Value.slice A j C).ownBlock = some y → False := fun y hn hy hg => by
  rcases ha hn y hy with h | h
  ·have := hX y h; have := hi y hg; omega
  ·have := hlt y hg; omega
 refine ⟨⟨vs ++ [.slice a1 n1 c1], by rw [← ptsC_snoc l vs p _ h1.1]; exact hr vs ow1, fun x => Z x ∨ (n1 ≠ 0 ∧ a1.map (·.block) = some x), ?_, ?_, ?_⟩, ?_, ?_⟩
 ·refine PsD.snoc (((h1.below hb1).out ho (fun x hx hg => h3 x hg hx)).wider (fun x hx => .inl hx)) ⟨a1, n1, c1, rfl, hd.1.out ho (fun hn b hb he => hx b hn hb he), hd.2.1, hd.2.2.1, fun hn y hy => .inr ⟨hn, hy⟩, hd.2.2.2⟩
 ·rintro x (hx | ⟨hn, hx⟩)
  ·have := h2 x hx; exact ⟨this.1, by omega⟩
  ·rcases ha hn x hx with h | h
   ·have := hX x h; exact ⟨.inl h, by omega⟩
   ·exact ⟨.inr (by omega), by omega⟩
 ·rintro g hg (hz | ⟨hn, hz⟩)
  ·rcases hbl with e | e
   ·exact h3 g (by rw [← e]; exact hg) hz
   ·have := e g hg; have := (h2 g hz).2; omega
  ·rcases hbl with e | e
   ·exact hx g hn hz (by rw [← e]; exact hg)
   ·have := e g hg
    rcases ha hn g hz with h | h
    ·have := hX g h; omega
    ·omega
 ·intro g hg
  rcases hbl with e | e
  ·exact hi g (by rw [← e]; exact hg)
  ·have := e g hg; omega
 ·exact (bel.trans (hb1.mono hq)).trans (ho.below (by omega) (fun k hk => hi k hk))
theorem RS.pts (h : RS X q W wr A j C l) (hn : l.length = j) (hm : j ≤ 1000) : PtsIn (fun x => (X x ∨ q ≤ x) ∧ x < wr.heap.size) wr A j l := by
 obtain ⟨⟨vs, ho, Z, h1, h2, h3⟩, hi, bel⟩ := h
 refine own_pts ho (h1.wider h2) hn hm (fun g hg => ?_)
 have hg' : (Value.slice A j C).ownBlock = some g := by
  rcases ho.2 with ⟨hv, h0⟩ | ⟨g', cap, cur, hv, r⟩
  ·simp only [Value.slice.injEq] at hv; rw [hv.1] at hg; cases hg
  ·simp only [Value.slice.injEq] at hv; rw [hv.1] at hg ⊢; simp only [Option.map_some, Option.some.injEq] at hg; subst hg; rfl
 exact ⟨.inr (hi g hg'), (ho.lt g hg').2⟩
theorem RS.cap (h : RS X q W wr A j C l) : j ≤ C := by
 obtain ⟨⟨vs, ho, _⟩, _⟩ := h
 exact (own_cap ho).1
end
set_option maxHeartbeats 2000000 in
theorem sblocks_of (S : Nat) (a : Option Addr) (n c : Nat) (l : List Pt) (X : Nat → Prop) (W : World) (hl : PtsIn X W a n l) (hS : S ≤ 10000) (hX : ∀ x, X x → x < W.heap.size) : Calls Tryz.prog 135 #[.int .i64 (S : Nat), .slice a n c] W fun e w' => ∃ A C, e = .returned (.slice A n C) ∧ RS X W.heap.size W w' A n C (l.map (blkP S)) := by
 have hn1 := hl.2.1
 have H : Hid (PtsIn X W a n l ∧ (∀ x, X x → x < W.heap.size)) := ⟨hl, hX⟩
 clear hl hX
 go_enter Tryz.func135, Tryz.ntmps135
 go_wp2_with fail
 go_loopw [5, 6] (fun v x wr => ∃ (j : Nat) (A : Option Addr) (C : Nat), v = .slice A j C ∧ x = .int .i64 j ∧ j ≤ n ∧ RS X W.heap.size W wr A j C ((l.take j).map (blkP S))) (fun _ x _ => n - (intOf x).toNat)
 case atStart => exact ⟨0, none, 0, rfl, rfl, Nat.zero_le _, by simpa using RS.start X W⟩
 case round =>
  obtain ⟨j, A, C, rfl, rfl, hj, hw⟩ := hrel
  rcases Nat.lt_or_ge j n with hlt | hge
  ·have hj' : (j : Int) < n := by omega
   have hwj : IntKind.i64.wrap ((j : Int) + 1) = (j : Int) + 1 := by rw [IntKind.wrap_i64]; omega
   obtain ⟨p, b, off, hp, rfl, hb, A1, L1, C1, hcl, hbin, hnil, hL1, hX1, hfit⟩ := (H.out.1.below hw.bel).at X hlt
   have x0 : wr.cell? ⟨b, off + j * 4, none⟩ = some (.int .u32 p.t) := hcl 0 _ rfl
   have x1 : wr.cell? ⟨b, off + j * 4 + 1, none⟩ = some (.int .u64 p.b) := hcl 1 _ rfl
   have x2 : wr.cell? ⟨b, off + j * 4 + 2, none⟩ = some (.bool p.x) := hcl 2 _ rfl
   have x3 : wr.cell? ⟨b, off + j * 4 + 3, none⟩ = some (.slice A1 L1 C1) := hcl 3 _ rfl
   have HN : Hid ((l.take (j + 1)).map (blkP S) = (l.take j).map (blkP S) ++ [blkP S p]) := by show _ = _; rw [take_snoc hp]; simp
   have hpx : (blkP S p).t = p.t ∧ (blkP S p).b = p.b ∧ (blkP S p).x = p.x ∧ (blkP S p).Fits := by
    unfold blkP
    split
    ·exact ⟨rfl, rfl, rfl, hfit⟩
    ·exact ⟨rfl, rfl, rfl, hfit.1, hfit.2.1, blockB_fits hfit.2.2⟩
   have HB : Hid (Calls Tryz.prog 188 #[.int .i64 (S : Nat), .agg #[.int .u32 p.t, .int .u64 p.b, .bool p.x, .slice A1 L1 C1]] wr fun e w1 => ∃ a1 n1 c1, e = .returned (.agg #[.int .u32 p.t, .int .u64 p.b, .bool p.x, .slice a1 n1 c1]) ∧ ∃ a9 c9 w9, (Builtin.append_ #[72, 72] 72 #[.slice A j C, .slice (some ⟨w1.heap.size, 0, none⟩) 1 1]).run Tryz.prog (w1.alloc (.cells #[.int .u32 p.t, .int .u64 p.b, .bool p.x, .slice a1 n1 c1] 71)) = .ok (.slice a9 (j + 1) c9) w9 ∧ RS X W.heap.size W w9 a9 (j + 1) c9 ((l.take (j + 1)).map (blkP S))) := by
    refine (sblock_of S p A1 L1 C1 wr hbin hS hL1).mono ?_
    rintro e w1 ⟨a1, n1, c1, rfl, k1, k2, k3⟩
    refine ⟨a1, n1, c1, rfl, ?_⟩
    have hw1 := hw.below hw.bel.size k3
    obtain ⟨⟨vs, ho, _⟩, _⟩ := hw1
    obtain ⟨a9, c9, w9, e9, o9, b9, g9⟩ := app_put ho (blkP S p) a1 n1 c1 (by omega)
    rw [hpx.1, hpx.2.1, hpx.2.2.1] at e9
    refine ⟨a9, c9, w9, e9, ?_⟩
    rw [HN.out]
    refine hw.more (c1 := c1) hw.bel.size H.out.2 k3 ⟨k1, ?_, ?_, hpx.2.2.2⟩ ?_ ⟨w9, rfl, fun vs' ho' => ?_⟩ b9 g9
    ·rcases k2 with ⟨rfl, rfl, rfl⟩ | ⟨q', rfl, _⟩
     ·exact hnil
     ·intro h; cases h
    ·rcases k2 with ⟨rfl, rfl, rfl⟩ | ⟨q', rfl, _, _, rfl, rfl⟩
     ·exact hL1
     ·exact hS
    ·intro hn y hy
     rcases k2 with ⟨rfl, rfl, rfl⟩ | ⟨q', rfl, h1, h2, rfl, rfl⟩
     ·exact .inl (hX1 hn y hy)
     ·simp only [Option.map_some, Option.some.injEq] at hy
      subst hy
      exact .inr ⟨h1, h2⟩
    ·obtain ⟨a8, c8, w8, e8, o8, _⟩ := app_put ho' (blkP S p) a1 n1 c1 (by omega)
     rw [hpx.1, hpx.2.1, hpx.2.2.1] at e8
     rw [e9] at e8
     cases e8
     exact o8
   clear hcl hbin hnil hL1 hX1 hfit hp hb hw hpx
   go_wp2_with (first
    | (go_at_call 188; refine HB.out.mono ?_; rintro e w1 ⟨a1, n1, c1, rfl, a9, c9, w9, e9, s9⟩)
    | (at_builtin; refine wpList_append_run rfl _ _ 72 72 rfl _ _ rfl rfl _ _ e9 ?_))
   have H9 : Hid (RS X W.heap.size W w9 a9 (j + 1) c9 ((l.take (j + 1)).map (blkP S))) := s9
   clear s9 e9
   go_wp2
   go_roundw
   case rel => exact ⟨j + 1, a9, c9, rfl, by simp, by omega, H9.out⟩
   case measure => simp [intOf]; omega
  ·obtain rfl : j = n := by omega
   have HT : Hid (RS X W.heap.size W wr A j C (l.map (blkP S))) := by
    rw [List.take_of_length_le (by rw [H.out.1.1]; exact Nat.le_refl _)] at hw
    exact hw
   clear hw
   go_wp2
   go_ret
   exact ⟨A, C, rfl, HT.out⟩
end Go.Proofs.YtncnkpnfmbgifaaGreat

/- Calls that come in; what one call of the laws' heavy and Heavy does. -/
namespace Go.Proofs.YtncnkpnfmbgifaaGreat
open Go.RowKit
set_option linter.unusedVariables false
set_option maxRecDepth 4000
def PtAtR (w : World) (b o : Nat) (p : Pt) : Prop :=
 ∃ A L C, (∀ (j : Nat) (v : Value), (ptL p (.slice A L C))[j]? = some v → w.cell? ⟨b, o + j, none⟩ = some v) ∧ BIn w A L p.d ∧ (A = none → L = 0 ∧ C = 0) ∧ p.Fits
def PtsR (w : World) (a : Option Addr) (n : Nat) (l : List Pt) : Prop :=
 l.length = n ∧ n ≤ maxLen ∧ (n = 0 ∨ ∃ b off, a = some ⟨b, off, none⟩ ∧ ∀ (i : Nat) (p : Pt), l[i]? = some p → PtAtR w b (off + i * 4) p)
theorem PtsR.below {w w' : World} {a : Option Addr} {n : Nat} {l : List Pt} (h : PtsR w a n l) (hb : Below w.heap.size w w') : PtsR w' a n l := by
 obtain ⟨h1, h2, h3⟩ := h
 refine ⟨h1, h2, ?_⟩
 rcases h3 with h3 | ⟨b, off, ha, hc⟩
 ·exact .inl h3
 ·refine .inr ⟨b, off, ha, fun i p hp => ?_⟩
  obtain ⟨A, L, C, k1, k2, k3, k4⟩ := hc i p hp
  exact ⟨A, L, C, fun j v hv => by rw [hb.cell (old_block (k1 j v hv))]; exact k1 j v hv, k2.below hb, k3, k4⟩
theorem PtsR.pts {w : World} {a : Option Addr} {n : Nat} {l : List Pt} (h : PtsR w a n l) (hn : n ≤ 1000) (hd : ∀ p ∈ l, p.d.length ≤ 10000) : PtsIn (fun x => x < w.heap.size) w a n l := by
 obtain ⟨h1, h2, h3⟩ := h
 refine ⟨h1, hn, ?_⟩
 by_cases h0 : n = 0
 ·exact .inl h0
 ·obtain ⟨b, off, ha, hc⟩ := h3.resolve_left h0
  have hb : b < w.heap.size := by
   obtain ⟨A, L, C, k1, _⟩ := hc 0 (l[0]'(by omega)) (by simp)
   exact old_block (k1 0 _ rfl)
  refine .inr ⟨b, off, ha, hb, fun i p hp => ?_⟩
  obtain ⟨A, L, C, k1, k2, k3, k4⟩ := hc i p hp
  refine ⟨A, L, C, k1, k2, k3, by have := hd p (List.mem_of_getElem? hp); have := k2.1; omega, fun hL y hy => ?_, k4⟩
  obtain ⟨b', off', e, hcc⟩ := k2.2.2.2.resolve_left hL
  subst e
  simp only [Option.map_some, Option.some.injEq] at hy
  subst hy
  exact old_block (hcc 0 (by omega))
structure Od where
 k : Int
 l : List Pt
 z : Int
def odL (o : Od) (v : Value) : List Value := [.int .u8 o.k, v, .int .i64 o.z]
def OdAtR (w : World) (b o : Nat) (x : Od) : Prop :=
 ∃ A N C, (∀ (j : Nat) (v : Value), (odL x (.slice A N C))[j]? = some v → w.cell? ⟨b, o + j, none⟩ = some v) ∧ PtsR w A N x.l ∧ N ≤ C ∧ (A = none → N = 0 ∧ C = 0)
def OdsR (w : World) (a : Option Addr) (n : Nat) (os : List Od) : Prop :=
 os.length = n ∧ n ≤ maxLen ∧ (n = 0 ∨ ∃ b off, a = some ⟨b, off, none⟩ ∧ ∀ (i : Nat) (x : Od), os[i]? = some x → OdAtR w b (off + i * 3) x)
theorem OdsR.below {w w' : World} {a : Option Addr} {n : Nat} {os : List Od} (h : OdsR w a n os) (hb : Below w.heap.size w w') : OdsR w' a n os := by
 obtain ⟨h1, h2, h3⟩ := h
 refine ⟨h1, h2, ?_⟩
 rcases h3 with h3 | ⟨b, off, ha, hc⟩
 ·exact .inl h3
 ·refine .inr ⟨b, off, ha, fun i p hp => ?_⟩
  obtain ⟨A, L, C, k1, k2, k3, k4⟩ := hc i p hp
  exact ⟨A, L, C, fun j v hv => by rw [hb.cell (old_block (k1 j v hv))]; exact k1 j v hv, k2.below hb, k3, k4⟩
theorem OdsR.at {w : World} {a : Option Addr} {n : Nat} {os : List Od} (h : OdsR w a n os) {i : Nat} (hi : i < n) : ∃ (x : Od) (b off : Nat), os[i]? = some x ∧ a = some ⟨b, off, none⟩ ∧ OdAtR w b (off + i * 3) x := by
 obtain ⟨b, off, rfl, hc⟩ := h.2.2.resolve_left (by omega)
 have : i < os.length := by rw [h.1]; exact hi
 exact ⟨os[i], b, off, by simp [this], rfl, hc i _ (by simp [this])⟩
theorem PtsR.at {w : World} {a : Option Addr} {n : Nat} {l : List Pt} (h : PtsR w a n l) {i : Nat} (hi : i < n) : ∃ (p : Pt) (b off : Nat), l[i]? = some p ∧ a = some ⟨b, off, none⟩ ∧ PtAtR w b (off + i * 4) p := by
 obtain ⟨b, off, rfl, hc⟩ := h.2.2.resolve_left (by omega)
 have : i < l.length := by rw [h.1]; exact hi
 exact ⟨l[i], b, off, by simp [this], rfl, hc i _ (by simp [this])⟩
def hvP (l : List Pt) : Prop := 30 < l.length ∨ ∃ p ∈ l, 200 < p.d.length
def HvO (s : Sh) (os : List Od) : Prop := ¬ SmallS s ∨ 40 < os.length ∨ ∃ o ∈ os, hvP o.l
open Classical in
set_option maxHeartbeats 2000000 in
theorem heavy_of (s : Sh) (a : Option Addr) (n c : Nat) (os : List Od) (W : World) (h : OdsR W a n os) : Calls Tryz.prog 32 #[.agg (shL s).toArray, .slice a n c] W fun e w' => e = .returned (.bool (decide (HvO s os))) ∧ Below W.heap.size W w' := by
 have hb0 : ∀ o, Below W.heap.size W (W.alloc o) := fun o => (Below.refl _ _).alloc (Nat.le_refl _) o
 obtain ⟨b, hB⟩ : ∃ b, b = decide (HvO s os) := ⟨_, rfl⟩
 rw [← hB]
 have HB : Hid (b = decide (HvO s os)) := hB
 have HSm : Hid (∀ o, Calls Tryz.prog 67 #[.agg #[.int .i64 s.z, .int .i64 s.zb, .int .i64 s.b, .int .i64 s.r]] (W.alloc o) fun e w' => e = .returned (.bool (decide (SmallS s))) ∧ Below W.heap.size W w') := fun o => by
  refine (small_of s (W.alloc o)).mono ?_
  rintro e w' ⟨rfl, hb⟩
  exact ⟨by congr, (hb0 o).trans (hb.mono (hb0 o).size)⟩
 have H : Hid (OdsR W a n os) := h
 have hn := h.2.1
 have hlen := h.1
 unfold shL
 clear h hb0 hB
 by_cases hs : SmallS s
 ·rw [decide_eq_true hs] at HSm
  rcases Nat.lt_or_ge 40 n with h40 | h40
  ·have hbt : b = true := by rw [HB.out]; exact decide_eq_true (.inr (.inl (by rw [hlen]; exact h40)))
   have h40' : (40 : Int) < n := by omega
   rw [hbt]
   go_enter Tryz.func32, Tryz.ntmps32
   go_wp2_with (go_at_call 67; refine (HSm.out _).mono ?_; rintro e W1 ⟨rfl, hb1⟩)
   go_ret
   exact ⟨rfl, hb1⟩
  ·have h40' : ¬ (40 : Int) < n := by omega
   have HN : Hid ((∀ o ∈ os, ¬ hvP o.l) → b = false) := fun hh => by
    rw [HB.out]
    exact decide_eq_false (fun h => by
     rcases h with h | h | ⟨o, ho, h⟩
     ·exact h hs
     ·rw [hlen] at h; omega
     ·exact hh o ho h)
   have HT : Hid ((∃ o ∈ os, hvP o.l) → b = true) := fun hh => by rw [HB.out]; exact decide_eq_true (.inr (.inr hh))
   clear HB
   go_enter Tryz.func32, Tryz.ntmps32
   go_wp2_with (go_at_call 67; refine (HSm.out _).mono ?_; rintro e W1 ⟨rfl, hb1⟩)
   have HB1 : Hid (Below W.heap.size W W1) := hb1
   clear hb1 HSm
   go_loopw [6] (fun x wr => ∃ j : Nat, x = .int .i64 j ∧ j ≤ n ∧ wr = W1 ∧ ∀ i o, i < j → os[i]? = some o → ¬ hvP o.l) (fun x _ => n - (intOf x).toNat)
   case atStart => exact ⟨0, rfl, Nat.zero_le _, rfl, fun i o hi => by omega⟩
   case round =>
    obtain ⟨j, rfl, hj, rfl, hok⟩ := hrel
    rcases Nat.lt_or_ge j n with hlt | hge
    ·have hj' : (j : Int) < n := by omega
     have hwj : IntKind.i64.wrap ((j : Int) + 1) = (j : Int) + 1 := by rw [IntKind.wrap_i64]; omega
     obtain ⟨o, b0, off, ho, rfl, A, N, C, hcl, hpts, hNC, hnil⟩ := (H.out.below HB1.out).at hlt
     have x1 : wr.cell? ⟨b0, off + j * 3 + 1, none⟩ = some (.slice A N C) := hcl 1 _ rfl
     have HO : Hid (os[j]? = some o ∧ PtsR wr A N o.l ∧ ∀ i q, i < j → os[i]? = some q → ¬ hvP q.l) := ⟨ho, hpts, hok⟩
     have hNl := hpts.1
     have hNm := hpts.2.1
     clear hcl hpts hok ho
     rcases Nat.lt_or_ge 30 N with h30 | h30
     ·have h30' : (30 : Int) < N := by omega
      have hbt : b = true := HT.out ⟨o, List.mem_of_getElem? HO.out.1, .inl (by rw [hNl]; exact h30)⟩
      go_wp2
      go_ret
      exact ⟨congrArg (fun b => Ending.returned (Value.bool b)) hbt.symm, HB1.out⟩
     ·have h30' : ¬ (30 : Int) < N := by omega
      go_wp2
      obtain ⟨V1, rfl⟩ : ∃ V1 : World, V1 = wr := ⟨_, rfl⟩
      go_loopw [7] (fun x wr => ∃ k : Nat, x = .int .i64 k ∧ k ≤ N ∧ wr = V1 ∧ ∀ i p, i < k → o.l[i]? = some p → p.d.length ≤ 200) (fun x _ => N - (intOf x).toNat)
      case atStart => exact ⟨0, rfl, Nat.zero_le _, rfl, fun i p hi => by omega⟩
      case round =>
       obtain ⟨k, rfl, hk, rfl, hok⟩ := hrel
       rcases Nat.lt_or_ge k N with hlt2 | hge2
       ·have hk' : (k : Int) < N := by omega
        have hwk : IntKind.i64.wrap ((k : Int) + 1) = (k : Int) + 1 := by rw [IntKind.wrap_i64]; omega
        obtain ⟨p, b1, off1, hp, rfl, A1, L1, C1, hcl, hbin, _⟩ := HO.out.2.1.at hlt2
        have y3 : wr.cell? ⟨b1, off1 + k * 4 + 3, none⟩ = some (.slice A1 L1 C1) := hcl 3 _ rfl
        have hL := hbin.1
        have HK : Hid (o.l[k]? = some p ∧ ∀ i p, i < k → o.l[i]? = some p → p.d.length ≤ 200) := ⟨hp, hok⟩
        clear hcl hbin hp hok
        rcases Nat.lt_or_ge 200 L1 with h200 | h200
        ·have h200' : (200 : Int) < L1 := by omega
         have hbt : b = true := HT.out ⟨o, List.mem_of_getElem? HO.out.1, .inr ⟨p, List.mem_of_getElem? HK.out.1, by rw [hL]; exact h200⟩⟩
         go_wp2
         go_ret
         exact ⟨congrArg (fun b => Ending.returned (Value.bool b)) hbt.symm, HB1.out⟩
        ·have h200' : ¬ (200 : Int) < L1 := by omega
         go_wp2
         go_roundw
         case rel => exact ⟨k + 1, by simp, by omega, trivial, fun i q hi hq => by
          rcases Nat.lt_or_ge i k with h | h
          ·exact HK.out.2 i q h hq
          ·obtain rfl : i = k := by omega
           rw [HK.out.1] at hq
           cases hq
           omega⟩
         case measure => simp [intOf]; omega
       ·obtain rfl : k = N := by omega
        have HK : Hid (∀ p ∈ o.l, p.d.length ≤ 200) := fun p hp => by
         obtain ⟨i, hi⟩ := List.getElem?_of_mem hp
         exact hok i p (by have := (List.getElem?_eq_some_iff.1 hi).1; omega) hi
        clear hok
        go_wp2
        go_roundw
        case rel => exact ⟨j + 1, by simp, by omega, trivial, fun i q hi hq => by
         rcases Nat.lt_or_ge i j with h | h
         ·exact HO.out.2.2 i q h hq
         ·obtain rfl : i = j := by omega
          rw [HO.out.1] at hq
          cases hq
          rintro (h | ⟨p, hp, h⟩)
          ·omega
          ·have := HK.out p hp; omega⟩
        case measure => simp [intOf]; omega
    ·obtain rfl : j = n := by omega
     have hbf : b = false := HN.out (fun o ho => by
      obtain ⟨i, hi⟩ := List.getElem?_of_mem ho
      exact hok i o (by have := (List.getElem?_eq_some_iff.1 hi).1; omega) hi)
     clear hok
     go_wp2
     go_ret
     exact ⟨congrArg (fun b => Ending.returned (Value.bool b)) hbf.symm, HB1.out⟩
 ·have hbt : b = true := by rw [HB.out]; exact decide_eq_true (.inl hs)
  rw [decide_eq_false hs] at HSm
  rw [hbt]
  go_enter Tryz.func32, Tryz.ntmps32
  go_wp2_with (go_at_call 67; refine (HSm.out _).mono ?_; rintro e W1 ⟨rfl, hb1⟩)
  go_ret
  exact ⟨rfl, hb1⟩
def trB (b : Bool) : Int := if b = true then 1 else 0
open Classical in
theorem Heavy_of (s : Sh) (a : Option Addr) (n c : Nat) (os : List Od) (W : World) (h : OdsR W a n os) : Calls Tryz.prog 9 #[.agg (shL s).toArray, .slice a n c] W fun e w' => e = .returned (.int .i64 (trB (decide (HvO s os)))) ∧ Below W.heap.size W w' := by
 have hb0 : ∀ o, Below W.heap.size W (W.alloc o) := fun o => (Below.refl _ _).alloc (Nat.le_refl _) o
 have HH : Hid (∀ o, Calls Tryz.prog 32 #[.agg #[.int .i64 s.z, .int .i64 s.zb, .int .i64 s.b, .int .i64 s.r], .slice a n c] (W.alloc o) fun e w' => e = .returned (.bool (decide (HvO s os))) ∧ Below W.heap.size W w') := fun o => by
  refine (heavy_of s a n c os (W.alloc o) (h.below (hb0 o))).mono ?_
  rintro e w' ⟨rfl, hb⟩
  exact ⟨rfl, (hb0 o).trans (hb.mono (hb0 o).size)⟩
 have hT : ∀ (b : Bool) (w : World), Calls Tryz.prog 31 #[.bool b] w fun e w' => e = .returned (.int .i64 (trB b)) ∧ w' = w := by
  intro b w
  cases b
  all_goals (
   go_enter Tryz.func31, Tryz.ntmps31
   go_wp2
   go_ret
   exact ⟨rfl, rfl⟩)
 unfold shL
 clear h hb0
 generalize decide (HvO s os) = b at HH ⊢
 go_enter Tryz.func9, Tryz.ntmps9
 go_wp2_with (first
  | (go_at_call 32; refine (HH.out _).mono ?_; rintro e W1 ⟨rfl, hb1⟩)
  | (go_at_call 31; refine (hT _ _).mono ?_; rintro e W2 ⟨rfl, rfl⟩))
 go_ret
 exact ⟨rfl, hb1⟩
end Go.Proofs.YtncnkpnfmbgifaaGreat

/- What comes in for the laws of the store, in the walks' words. -/
namespace Go.Proofs.YtncnkpnfmbgifaaGreat
open Go.RowKit Go.ChangeShapes Go.WideShapes
set_option linter.unusedVariables false
set_option maxRecDepth 4000

section
variable {H : Type} {enc : TypeId × Value → H} {W : World}
abbrev Came (enc : TypeId × Value → H) (W : World) (t : TypeId) (v : Value) (d : DataW H) (p : List MemPlace) : Prop := DataW.Trod enc Tryz.prog W 0 (fun _ => true) true t v d p
def F64 (z : Int) : Prop := -9223372036854775808 ≤ z ∧ z < 9223372036854775808
theorem int_of {v : Value} {n : Nat} {y : DataW H × List MemPlace} (h : DataW.trod enc Tryz.prog W 0 (fun _ => true) true n 3 [v] = some y) : ∃ z, v = .int .i64 z ∧ F64 z := by
 obtain ⟨z, hv, _, hw⟩ := DataW.trod_int Tryz.underlying3 h
 have := bounds_i64 hw
 simp only [List.cons.injEq, and_true] at hv
 exact ⟨z, hv, by unfold F64; omega⟩
theorem u8_of {v : Value} {n : Nat} {y : DataW H × List MemPlace} (h : DataW.trod enc Tryz.prog W 0 (fun _ => true) true n 5 [v] = some y) : ∃ z, v = .int .u8 z ∧ Fits8 z := by
 obtain ⟨z, hv, _, hw⟩ := DataW.trod_int Tryz.underlying5 h
 have := bounds_u8 hw
 simp only [List.cons.injEq, and_true] at hv
 exact ⟨z, hv, by unfold Fits8; omega⟩
theorem slice_form {t e : TypeId} {v : Value} {n : Nat} {y : DataW H × List MemPlace} (ht : Tryz.prog.underlying t = some (.slice e)) (h : DataW.trod enc Tryz.prog W 0 (fun _ => true) true n t [v] = some y) : ∃ a l c, v = .slice a l c := by
 rcases DataW.trod_slice ht h with ⟨hcs, _⟩ | ⟨a, l, c, _, _, _, _, hcs, _⟩
 ·simp only [List.cons.injEq, and_true] at hcs; exact ⟨_, _, _, hcs⟩
 ·simp only [List.cons.injEq, and_true] at hcs; exact ⟨_, _, _, hcs⟩
theorem ints_cells {k : IntKind} {a : Option Addr} {len cap : Nat} {t e : TypeId} {fuel : Nat} {x : DataW H × List MemPlace} (ht : Tryz.prog.underlying t = some (.slice e)) (he : Tryz.prog.underlying e = some (.int k)) (hc : Tryz.prog.cellsOf e = 1)
  (h : DataW.trod enc Tryz.prog W 0 (fun _ => true) true fuel t [.slice a len cap] = some x) :
  (a = none ∧ len = 0 ∧ cap = 0) ∨ ∃ (b off : Nat) (zs : List Int), (len = 0 ∨ a = some ⟨b, off, none⟩) ∧ a ≠ none ∧ len ≤ cap ∧ cap ≤ maxLen ∧ zs.length = cap ∧ (∀ z ∈ zs, (Lit.int k z).wf = true) ∧ ∀ i, i < len → W.cell? ⟨b, off + i, none⟩ = some (.int k (zs.getD i 0)) := by
 rcases open_ints ht he hc h with ⟨hcs, _⟩ | ⟨x, l, c, zs, hcs, _, hl, hm, hz, _, hcell, hwz⟩
 ·simp at hcs
  obtain ⟨rfl, rfl, rfl⟩ := hcs
  exact .inl ⟨rfl, rfl, rfl⟩
 ·simp at hcs
  obtain ⟨rfl, rfl, rfl⟩ := hcs
  right
  have hz' : zs.length = cap := by simpa using hz
  by_cases h0 : len = 0
  ·exact ⟨0, 0, zs, .inl h0, by simp, hl, hm, hz', hwz, fun i hi => by omega⟩
  ·obtain ⟨b, off, spot⟩ := x
   have hc0 := hcell 0 (by omega)
   have hs : spot = none := by simpa [Addr.add] using World.cell?_spot hc0
   subst hs
   refine ⟨b, off, zs, .inr rfl, by simp, hl, hm, hz', hwz, fun i hi => ?_⟩
   have := hcell i (by omega)
   rwa [Addr.add_mid] at this
theorem bytes_of {a : Option Addr} {len cap : Nat} {fuel : Nat} {x : DataW H × List MemPlace} (h : DataW.trod enc Tryz.prog W 0 (fun _ => true) true fuel 43 [.slice a len cap] = some x) :
  ∃ zs, BIn W a len zs ∧ len ≤ cap ∧ (a = none → len = 0 ∧ cap = 0) := by
 rcases ints_cells Tryz.underlying43 Tryz.underlying5 (by kernel_rfl) h with ⟨rfl, rfl, rfl⟩ | ⟨b, off, zs, ha, hn, hl, hm, hz, hwz, hcell⟩
 ·exact ⟨[], bin_none _, Nat.le_refl _, fun _ => ⟨rfl, rfl⟩⟩
 ·refine ⟨zs.take len, ⟨by simp [hz]; omega, Nat.le_trans hl hm, fun z hz' => ?_, ?_⟩, hl, fun h => absurd h hn⟩
  ·have := bounds_u8 (hwz z (List.mem_of_mem_take hz'))
   unfold Fits8
   omega
  ·rcases ha with ha | ha
   ·exact .inl ha
   ·exact .inr ⟨b, off, ha, fun i hi => by rw [hcell i hi]; simp [List.getD, hi]⟩
theorem list_of {α : Type} {n : Nat} {p : Nat → α → Prop} (h : ∀ i, i < n → ∃ x, p i x) : ∃ l : List α, l.length = n ∧ ∀ i x, l[i]? = some x → p i x := by
 induction n with
 | zero => exact ⟨[], rfl, fun i x hx => by simp at hx⟩
 | succ n ih =>
  obtain ⟨l, hl, hp⟩ := ih (fun i hi => h i (by omega))
  obtain ⟨x, hx⟩ := h n (by omega)
  refine ⟨l ++ [x], by simp [hl], fun i y hy => ?_⟩
  by_cases hi : i < l.length
  ·rw [List.getElem?_append_left hi] at hy
   exact hp i y hy
  ·have hi' : i = l.length := by
    have := (List.getElem?_eq_some_iff.1 hy).1
    simp at this
    omega
   subst hi'
   simp at hy
   subst hy
   rw [hl]; exact hx
theorem rows_of {t e : TypeId} {sz : Nat} {a : Option Addr} {len cap fuel : Nat} {y : DataW H × List MemPlace} (ht : Tryz.prog.underlying t = some (.slice e)) (hc : Tryz.prog.cellsOf e = sz) (hs0 : 0 < sz) (h : DataW.trod enc Tryz.prog W 0 (fun _ => true) true fuel t [.slice a len cap] = some y) :
  (len ≤ cap ∧ cap ≤ maxLen ∧ (a = none → len = 0 ∧ cap = 0)) ∧ (len = 0 ∨ ∃ b off, a = some ⟨b, off, none⟩ ∧ ∀ i, i < len → ∃ cs, cs.length = sz ∧ (∀ j, j < sz → W.cell? ⟨b, off + i * sz + j, none⟩ = cs[j]?) ∧ ∃ fuel' y', DataW.trod enc Tryz.prog W 0 (fun _ => true) true fuel' e cs = some y') := by
 rcases Deep.open_slice ht h with ⟨hcs, _⟩ | ⟨x, l, c, m, n, D, Pl, hcs, _, hl, hm, hmm, _, hx⟩
 ·simp at hcs
  obtain ⟨rfl, rfl, rfl⟩ := hcs
  exact ⟨⟨Nat.le_refl _, Nat.zero_le _, fun _ => ⟨rfl, rfl⟩⟩, .inl rfl⟩
 ·simp at hcs
  obtain ⟨rfl, rfl, rfl⟩ := hcs
  simp only [if_true] at hmm
  subst hmm
  rw [hc] at hx
  refine ⟨⟨hl, hm, fun h => by cases h⟩, ?_⟩
  by_cases h0 : len = 0
  ·exact .inl h0
  ·obtain ⟨b, off, spot⟩ := x
   obtain ⟨cs, h1, _⟩ := hx 0 (by omega)
   obtain ⟨_, hlen, hcell⟩ := World.cells?_some h1
   have hc0 := hcell 0 (by omega)
   rw [List.getElem?_eq_getElem (by omega)] at hc0
   have hs : spot = none := by simpa [Addr.add] using World.cell?_spot hc0
   subst hs
   refine .inr ⟨b, off, rfl, fun i hi => ?_⟩
   obtain ⟨cs', h1', h2'⟩ := hx i (by omega)
   obtain ⟨_, hlen', hcell'⟩ := World.cells?_some h1'
   refine ⟨cs', hlen', fun j hj => ?_, _, _, h2'⟩
   have := hcell' j (by omega)
   rw [Addr.add_mid, Addr.add_mid] at this
   exact this
def ShF (s : Sh) : Prop := F64 s.z ∧ F64 s.zb ∧ F64 s.b ∧ F64 s.r
theorem open_shape {r : Reach} {b0 : Nat} {v : Value} {d : DataW H} {p : List MemPlace} (hv : Value.okWide Tryz.prog W r b0 23 v) (h : Came enc W 23 v d p) : ∃ s : Sh, v = .agg (shL s).toArray ∧ ShF s := by
 obtain ⟨cs, rfl, hsz⟩ := okWide_struct Tryz.underlying23 hv
 obtain ⟨fuel, hf⟩ := h
 have hf' : DataW.trod enc Tryz.prog W 0 (fun _ => true) true fuel 23 cs.toList = some (d, p) := by simpa [Value.cells] using hf
 obtain ⟨xs, m, _, _, hlen, hxl, hf⟩ := DataW.trod_struct Tryz.underlying23 hf'
 have hc4 : Tryz.prog.cellsOf 23 = 4 := by kernel_rfl
 rw [hc4] at hlen
 obtain ⟨L, rfl⟩ : ∃ L : List Value, cs = L.toArray := ⟨cs.toList, by simp⟩
 simp only at hlen hf
 match L, hlen, xs, hxl with
 | [v0, v1, v2, v3], _, [x0, x1, x2, x3], _ =>
  have h0 := hf 0 _ rfl
  have h1 := hf 1 _ rfl
  have h2 := hf 2 _ rfl
  have h3 := hf 3 _ rfl
  simp only [List.getElem?_cons_zero, List.getElem?_cons_succ] at h0 h1 h2 h3
  obtain ⟨z, rfl, f0⟩ := int_of h0
  obtain ⟨zb, rfl, f1⟩ := int_of h1
  obtain ⟨b, rfl, f2⟩ := int_of h2
  obtain ⟨r, rfl, f3⟩ := int_of h3
  exact ⟨⟨z, zb, b, r⟩, rfl, f0, f1, f2, f3⟩
theorem u32_of {v : Value} {n : Nat} {y : DataW H × List MemPlace} (h : DataW.trod enc Tryz.prog W 0 (fun _ => true) true n 46 [v] = some y) : ∃ z, v = .int .u32 z ∧ Fits32 z := by
 obtain ⟨z, hv, _, hw⟩ := DataW.trod_int Tryz.underlying46 h
 have := bounds_u32 hw
 simp only [List.cons.injEq, and_true] at hv
 exact ⟨z, hv, by unfold Fits32; omega⟩
theorem u64_of {v : Value} {n : Nat} {y : DataW H × List MemPlace} (h : DataW.trod enc Tryz.prog W 0 (fun _ => true) true n 47 [v] = some y) : ∃ z, v = .int .u64 z ∧ FitsU z := by
 obtain ⟨z, hv, _, hw⟩ := DataW.trod_int Tryz.underlying47 h
 have := bounds_u64 hw
 simp only [List.cons.injEq, and_true] at hv
 exact ⟨z, hv, by unfold FitsU; omega⟩
theorem bool_of {v : Value} {n : Nat} {y : DataW H × List MemPlace} (h : DataW.trod enc Tryz.prog W 0 (fun _ => true) true n 4 [v] = some y) : ∃ b, v = .bool b := by
 obtain ⟨b, hv, _⟩ := DataW.trod_bool Tryz.underlying4 h
 simp only [List.cons.injEq, and_true] at hv
 exact ⟨b, hv⟩
theorem put_of_raw {cs : List Value} {n : Nat} {y : DataW H × List MemPlace} (h : DataW.trod enc Tryz.prog W 0 (fun _ => true) true n 71 cs = some y) : ∃ (p : Pt) (A : Option Addr) (L C : Nat), cs = ptL p (.slice A L C) ∧ BIn W A L p.d ∧ (A = none → L = 0 ∧ C = 0) ∧ p.Fits := by
 obtain ⟨xs, m, _, _, hlen, hxl, hf⟩ := DataW.trod_struct Tryz.underlying71 h
 have hc4 : Tryz.prog.cellsOf 71 = 4 := by kernel_rfl
 rw [hc4] at hlen
 match cs, hlen, xs, hxl with
 | [v0, v1, v2, v3], _, [x0, x1, x2, x3], _ =>
  have h0 := hf 0 _ rfl
  have h1 := hf 1 _ rfl
  have h2 := hf 2 _ rfl
  have h3 := hf 3 _ rfl
  simp only [List.getElem?_cons_zero, List.getElem?_cons_succ] at h0 h1 h2 h3
  obtain ⟨a, rfl, f0⟩ := u32_of h0
  obtain ⟨b, rfl, f1⟩ := u64_of h1
  obtain ⟨x, rfl⟩ := bool_of h2
  obtain ⟨A, L, C, rfl⟩ := slice_form Tryz.underlying43 h3
  obtain ⟨D, hb, hn⟩ := bytes_of h3
  exact ⟨⟨a, b, x, D⟩, A, L, C, rfl, hb, hn.2, f0, f1, hb.2.2.1⟩
theorem puts_of {a : Option Addr} {len cap fuel : Nat} {y : DataW H × List MemPlace} (h : DataW.trod enc Tryz.prog W 0 (fun _ => true) true fuel 72 [.slice a len cap] = some y) : ∃ l, PtsR W a len l ∧ len ≤ cap ∧ (a = none → len = 0 ∧ cap = 0) := by
 obtain ⟨⟨h1, h2, h3⟩, h4⟩ := rows_of Tryz.underlying72 (sz := 4) (by kernel_rfl) (by decide) h
 rcases h4 with rfl | ⟨b, off, rfl, hc⟩
 ·exact ⟨[], ⟨rfl, Nat.zero_le _, .inl rfl⟩, h1, h3⟩
 ·obtain ⟨l, hl, hp⟩ := list_of (n := len) (p := fun i (p : Pt) => PtAtR W b (off + i * 4) p) (fun i hi => by
   obtain ⟨cs, e1, e2, f, y', e3⟩ := hc i hi
   obtain ⟨p, A, L, C, rfl, hb, hn, hF⟩ := put_of_raw e3
   exact ⟨p, A, L, C, fun j v hv => by
    rw [e2 j (by have := (List.getElem?_eq_some_iff.1 hv).1; simpa [ptL] using this)]; exact hv, hb, hn, hF⟩)
  exact ⟨l, ⟨hl, Nat.le_trans h1 h2, .inr ⟨b, off, rfl, fun i p hi => hp i p hi⟩⟩, h1, h3⟩
theorem sop_of {cs : List Value} {n : Nat} {y : DataW H × List MemPlace} (h : DataW.trod enc Tryz.prog W 0 (fun _ => true) true n 76 cs = some y) : ∃ (o : Od) (A : Option Addr) (N C : Nat), cs = odL o (.slice A N C) ∧ PtsR W A N o.l ∧ N ≤ C ∧ (A = none → N = 0 ∧ C = 0) ∧ Fits8 o.k ∧ F64 o.z := by
 obtain ⟨xs, m, _, _, hlen, hxl, hf⟩ := DataW.trod_struct Tryz.underlying76 h
 have hc3 : Tryz.prog.cellsOf 76 = 3 := by kernel_rfl
 rw [hc3] at hlen
 match cs, hlen, xs, hxl with
 | [v0, v1, v2], _, [x0, x1, x2], _ =>
  have h0 := hf 0 _ rfl
  have h1 := hf 1 _ rfl
  have h2 := hf 2 _ rfl
  simp only [List.getElem?_cons_zero, List.getElem?_cons_succ] at h0 h1 h2
  obtain ⟨k, rfl, f0⟩ := u8_of h0
  obtain ⟨A, N, C, rfl⟩ := slice_form Tryz.underlying72 h1
  obtain ⟨l, hl, h3, h4⟩ := puts_of h1
  obtain ⟨z, rfl, f2⟩ := int_of h2
  exact ⟨⟨k, l, z⟩, A, N, C, rfl, hl, h3, h4, f0, f2⟩
theorem open_sops {a : Option Addr} {len cap : Nat} {d : DataW H} {p : List MemPlace} (h : Came enc W 24 (.slice a len cap) d p) : ∃ os, OdsR W a len os ∧ len ≤ cap ∧ (a = none → len = 0 ∧ cap = 0) ∧ ∀ o ∈ os, Fits8 o.k ∧ F64 o.z := by
 obtain ⟨fuel, hf⟩ := h
 have hf' : DataW.trod enc Tryz.prog W 0 (fun _ => true) true fuel 24 [.slice a len cap] = some (d, p) := by simpa [Value.cells] using hf
 obtain ⟨⟨h1, h2, h3⟩, h4⟩ := rows_of Tryz.underlying24 (sz := 3) (by kernel_rfl) (by decide) hf'
 rcases h4 with rfl | ⟨b, off, rfl, hc⟩
 ·exact ⟨[], ⟨rfl, Nat.zero_le _, .inl rfl⟩, h1, h3, by simp⟩
 ·obtain ⟨os, hl, hp⟩ := list_of (n := len) (p := fun i (o : Od) => OdAtR W b (off + i * 3) o ∧ Fits8 o.k ∧ F64 o.z) (fun i hi => by
   obtain ⟨cs, e1, e2, f, y', e3⟩ := hc i hi
   obtain ⟨o, A, N, C, rfl, hb, hn, hF, f1, f2⟩ := sop_of e3
   exact ⟨o, ⟨A, N, C, fun j v hv => by
    rw [e2 j (by have := (List.getElem?_eq_some_iff.1 hv).1; simpa [odL] using this)]; exact hv, hb, hn, hF⟩, f1, f2⟩)
  refine ⟨os, ⟨hl, Nat.le_trans h1 h2, .inr ⟨b, off, rfl, fun i o hi => (hp i o hi).1⟩⟩, h1, h3, fun o ho => ?_⟩
  obtain ⟨i, hi⟩ := List.getElem?_of_mem ho
  exact (hp i o hi).2
end
end Go.Proofs.YtncnkpnfmbgifaaGreat
