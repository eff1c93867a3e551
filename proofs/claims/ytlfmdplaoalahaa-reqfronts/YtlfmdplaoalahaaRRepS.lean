/- What Replies defers; its own variables. -/
import Derived.Test.YtlfmdplaoalahaaRApp
namespace Go.Proofs.Ytlfmdplaoalahaa
open Go.RowKit
set_option linter.unusedVariables false
set_option maxRecDepth 4000

theorem catchR_idle (p q r s : Addr) (w : World) :
    CallsD Try.prog 33 #[.pointer (some p), .pointer (some q), .pointer (some r), .pointer (some s)] .returning w fun e u' w' => e = .returned (.tuple #[]) ∧ u' = .returning ∧ w' = w := by
  refine callsD_of_wpS Try.func33 rfl fun c₀ cs hu => ?_
  apply wpS_seq
  apply wpS_region
  simp [wpOpsS, go_sem, recoverD, hu, Try.ntmps33, Exit.thenS]
  refine wpS_cond (t := false) (by simp [Act.eval, Array.replicate]) ?_
  simp only [Bool.false_eq_true, if_false]
  refine wpS_of_wp (wp_skip ?_)
  cases c₀
  simp_all [bodyPostS, results, Try.results33]
theorem catchR_panicking (g : Nat) (u : TypeId) (pv : Value) (older : List PanicEntry) (w : World) (v0 v1 v2 v3 : Value)
    (hp : w.cell? ⟨g, 0, none⟩ = some v0) (hq : w.cell? ⟨g + 1, 0, none⟩ = some v1) (hr : w.cell? ⟨g + 2, 0, none⟩ = some v2) (hs : w.cell? ⟨g + 3, 0, none⟩ = some v3) (zp : w.frozen? ⟨g, 0, none⟩ = false) (zq : w.frozen? ⟨g + 1, 0, none⟩ = false) (zr : w.frozen? ⟨g + 2, 0, none⟩ = false) (zs : w.frozen? ⟨g + 3, 0, none⟩ = false) :
    CallsD Try.prog 33 #[.pointer (some ⟨g, 0, none⟩), .pointer (some ⟨g + 1, 0, none⟩), .pointer (some ⟨g + 2, 0, none⟩), .pointer (some ⟨g + 3, 0, none⟩)] (.panicking ({ v := .iface u pv, recovered := false } :: older)) w fun e u' w' =>
      e = .returned (.tuple #[]) ∧ u' = .panicking ({ v := .iface u pv, recovered := true } :: older) ∧ w' = (((w.setCell ⟨g, 0, none⟩ (.slice none 0 0)).setCell ⟨g + 1, 0, none⟩ (.slice none 0 0)).setCell ⟨g + 2, 0, none⟩ (.slice none 0 0)).setCell ⟨g + 3, 0, none⟩ (.bool false) := by
  refine callsD_of_wpS Try.func33 rfl fun c₀ cs hu => ?_
  apply wpS_seq
  apply wpS_region
  simp [wpOpsS, go_sem, recoverD, hu, Try.ntmps33, Exit.thenS]
  refine wpS_cond (t := true) (by simp [Act.eval, Array.replicate]) ?_
  simp only [if_true]
  apply wpS_region
  simp [wpOpsS, go_sem, hp, hq, hr, hs, zp, zq, zr, zs, bodyPostS, results, Try.results33]
theorem rep_results (q : Nat) (tmps : Array Value) (w : World) (v0 v1 v2 v3 : Value) (h4 : tmps.getD 4 undef = .pointer (some ⟨q, 0, none⟩)) (h5 : tmps.getD 5 undef = .pointer (some ⟨q + 1, 0, none⟩)) (h6 : tmps.getD 6 undef = .pointer (some ⟨q + 2, 0, none⟩)) (h7 : tmps.getD 7 undef = .pointer (some ⟨q + 3, 0, none⟩))
    (c0 : w.cell? ⟨q, 0, none⟩ = some v0) (c1 : w.cell? ⟨q + 1, 0, none⟩ = some v1) (c2 : w.cell? ⟨q + 2, 0, none⟩ = some v2) (c3 : w.cell? ⟨q + 3, 0, none⟩ = some v3) :
    (results Try.f19 tmps).run Try.prog w = .ok (.tuple #[v0, v1, v2, v3]) w := by
  have k4 : tmps[4]?.getD undef = .pointer (some ⟨q, 0, none⟩) := by simpa using h4
  have k5 : tmps[5]?.getD undef = .pointer (some ⟨q + 1, 0, none⟩) := by simpa using h5
  have k6 : tmps[6]?.getD undef = .pointer (some ⟨q + 2, 0, none⟩) := by simpa using h6
  have k7 : tmps[7]?.getD undef = .pointer (some ⟨q + 3, 0, none⟩) := by simpa using h7
  simp [results, Try.results19, go_sem, k4, k5, k6, k7, c0, c1, c2, c3]
/-- Replies' own variables. -/
structure RepSt (q : Nat) (w V : World) (aa cs : List Int) (Ds : List (List Int)) (vs : List Value) (k1 : Nat) (A1 : Option Addr) (C1 : Nat) (k2 : Nat) (A2 : Option Addr) (C2 : Nat) (k3 : Nat) (A3 : Option Addr) (C3 : Nat) (L : Option Addr) (n c : Nat) : Prop where
  ans : Blk V q [.slice A1 k1 C1] 42
  cks : Blk V (q + 1) [.slice A2 k2 C2] 43
  dat : Blk V (q + 2) [.slice A3 k3 C3] 44
  flag : Blk V (q + 3) [.bool false] 4
  left : Blk V (q + 4) [.slice L n c] 55
  own1 : V.ownsRow (q + 5) 26 1 (.slice A1 k1 C1) k1 (kInts .u32 aa)
  own2 : V.ownsRow (q + 5) 25 1 (.slice A2 k2 C2) k2 (kInts .u64 cs)
  own3 : V.ownsRow (q + 5) 22 1 (.slice A3 k3 C3) k3 vs
  ds : DsOwn V (q + 5) vs Ds
  bel : Below q w V
  size : q + 5 ≤ V.heap.size
section
variable {q : Nat} {w V V' : World} {aa cs : List Int} {Ds : List (List Int)} {vs : List Value} {k1 : Nat} {A1 : Option Addr} {C1 : Nat} {k2 : Nat} {A2 : Option Addr} {C2 : Nat} {k3 : Nat} {A3 : Option Addr} {C3 : Nat} {L : Option Addr} {n c : Nat}
theorem RepSt.below (h : RepSt q w V aa cs Ds vs k1 A1 C1 k2 A2 C2 k3 A3 C3 L n c) (hb : Below V.heap.size V V') : RepSt q w V' aa cs Ds vs k1 A1 C1 k2 A2 C2 k3 A3 C3 L n c :=
  ⟨h.ans.below hb h.ans.lt, h.cks.below hb h.cks.lt, h.dat.below hb h.dat.lt, h.flag.below hb h.flag.lt, h.left.below hb h.left.lt, own_belowN h.own1 hb (Nat.le_refl _), own_belowN h.own2 hb (Nat.le_refl _), own_belowN h.own3 hb (Nat.le_refl _),
    h.ds.map (fun _ _ _ _ o => own_belowN o hb (Nat.le_refl _)), h.bel.trans (hb.mono (by have := h.size; omega)), Nat.le_trans h.size hb.size⟩
theorem RepSt.drew (h : RepSt q w V aa cs Ds vs k1 A1 C1 k2 A2 C2 k3 A3 C3 L n c) : RepSt q w V.drew aa cs Ds vs k1 A1 C1 k2 A2 C2 k3 A3 C3 L n c := h.below (Below.refl _ _).drew
theorem RepSt.drewN (h : RepSt q w V aa cs Ds vs k1 A1 C1 k2 A2 C2 k3 A3 C3 L n c) (m : Nat) : RepSt q w (V.drewN m) aa cs Ds vs k1 A1 C1 k2 A2 C2 k3 A3 C3 L n c := h.below (below_drewN (Below.refl _ _) m)
theorem RepSt.leave (h : RepSt q w V aa cs Ds vs k1 A1 C1 k2 A2 C2 k3 A3 C3 L n c) {L' : Option Addr} {n' c' : Nat} {v : Value} (hv : .slice L' n' c' = v) : RepSt q w (V.setCell ⟨q + 4, 0, none⟩ v) aa cs Ds vs k1 A1 C1 k2 A2 C2 k3 A3 C3 L' n' c' := by
  subst hv
  exact ⟨h.ans.set_other (by show q ≠ q + 4; omega) _, h.cks.set_other (by show q + 1 ≠ q + 4; omega) _, h.dat.set_other (by show q + 2 ≠ q + 4; omega) _, h.flag.set_other (by show q + 3 ≠ q + 4; omega) _, h.left.set 0 _,
    ownsRow_setCell_below h.own1 (by show q + 4 < q + 5; omega) _, ownsRow_setCell_below h.own2 (by show q + 4 < q + 5; omega) _, ownsRow_setCell_below h.own3 (by show q + 4 < q + 5; omega) _,
    h.ds.map (fun _ _ _ _ o => ownsRow_setCell_below o (by show q + 4 < q + 5; omega) _), h.bel.setCell (by show q ≤ q + 4; omega) _, by have := h.size; simpa [World.setCell] using this⟩
/-- One answer more. -/
theorem RepSt.app1 (h : RepSt q w V aa cs Ds vs k1 A1 C1 k2 A2 C2 k3 A3 C3 L n c) {o : Obj} {w2 : World} {A : Option Addr} {C : Nat} {x : Int} (ho : w2.ownsRow (q + 5) 26 1 (.slice A (k1 + 1) C) (k1 + 1) (kInts .u32 aa ++ [.int .u32 x])) (hb : Below (q + 5) (V.alloc o) w2) (hg : (V.alloc o).grownBy w2 (Value.slice A1 k1 C1).ownBlock) :
    RepSt q w (w2.setCell ⟨q, 0, none⟩ (.slice A (k1 + 1) C)) (aa ++ [x]) cs Ds vs (k1 + 1) A C k2 A2 C2 k3 A3 C3 L n c := by
  have ho' : w2.ownsRow (q + 5) 26 1 (.slice A (k1 + 1) C) (k1 + 1) (kInts .u32 (aa ++ [x])) := by simpa [kInts] using ho
  exact ⟨((h.ans.alloc o).below hb (by omega)).set 0 _, ((h.cks.alloc o).below hb (by omega)).set_other (by show q + 1 ≠ q; omega) _, ((h.dat.alloc o).below hb (by omega)).set_other (by show q + 2 ≠ q; omega) _, ((h.flag.alloc o).below hb (by omega)).set_other (by show q + 3 ≠ q; omega) _, ((h.left.alloc o).below hb (by omega)).set_other (by show q + 4 ≠ q; omega) _,
    ownsRow_setCell_below ho' (by show q < q + 5; omega) _, ownsRow_setCell_below ((h.own2.alloc o).kept hg (own_apart (h.own2.alloc o) (h.own1.alloc o) (by decide))) (by show q < q + 5; omega) _, ownsRow_setCell_below ((h.own3.alloc o).kept hg (own_apart (h.own3.alloc o) (h.own1.alloc o) (by decide))) (by show q < q + 5; omega) _,
    h.ds.map (fun _ _ _ _ p => ownsRow_setCell_below ((p.alloc o).kept hg (own_apart (p.alloc o) (h.own1.alloc o) (by decide))) (by show q < q + 5; omega) _),
    ((h.bel.alloc (by have := h.size; omega) o).trans (hb.mono (by omega))).setCell (Nat.le_refl _) _, by have h1 := h.size; have h2 := hb.size; simp at h2; simp [World.setCell]; omega⟩
/-- One cookie more. -/
theorem RepSt.app2 (h : RepSt q w V aa cs Ds vs k1 A1 C1 k2 A2 C2 k3 A3 C3 L n c) {o : Obj} {w2 : World} {A : Option Addr} {C : Nat} {x : Int} (ho : w2.ownsRow (q + 5) 25 1 (.slice A (k2 + 1) C) (k2 + 1) (kInts .u64 cs ++ [.int .u64 x])) (hb : Below (q + 5) (V.alloc o) w2) (hg : (V.alloc o).grownBy w2 (Value.slice A2 k2 C2).ownBlock) :
    RepSt q w (w2.setCell ⟨q + 1, 0, none⟩ (.slice A (k2 + 1) C)) aa (cs ++ [x]) Ds vs k1 A1 C1 (k2 + 1) A C k3 A3 C3 L n c := by
  have ho' : w2.ownsRow (q + 5) 25 1 (.slice A (k2 + 1) C) (k2 + 1) (kInts .u64 (cs ++ [x])) := by simpa [kInts] using ho
  exact ⟨((h.ans.alloc o).below hb (by omega)).set_other (by show q ≠ q + 1; omega) _, ((h.cks.alloc o).below hb (by omega)).set 0 _, ((h.dat.alloc o).below hb (by omega)).set_other (by show q + 2 ≠ q + 1; omega) _, ((h.flag.alloc o).below hb (by omega)).set_other (by show q + 3 ≠ q + 1; omega) _, ((h.left.alloc o).below hb (by omega)).set_other (by show q + 4 ≠ q + 1; omega) _,
    ownsRow_setCell_below ((h.own1.alloc o).kept hg (own_apart (h.own1.alloc o) (h.own2.alloc o) (by decide))) (by show q + 1 < q + 5; omega) _, ownsRow_setCell_below ho' (by show q + 1 < q + 5; omega) _, ownsRow_setCell_below ((h.own3.alloc o).kept hg (own_apart (h.own3.alloc o) (h.own2.alloc o) (by decide))) (by show q + 1 < q + 5; omega) _,
    h.ds.map (fun _ _ _ _ p => ownsRow_setCell_below ((p.alloc o).kept hg (own_apart (p.alloc o) (h.own2.alloc o) (by decide))) (by show q + 1 < q + 5; omega) _),
    ((h.bel.alloc (by have := h.size; omega) o).trans (hb.mono (by omega))).setCell (by show q ≤ q + 1; omega) _, by have h1 := h.size; have h2 := hb.size; simp at h2; simp [World.setCell]; omega⟩
/-- One list more. -/
theorem RepSt.app3 (h : RepSt q w V aa cs Ds vs k1 A1 C1 k2 A2 C2 k3 A3 C3 L n c) {o : Obj} {w2 : World} {A : Option Addr} {C : Nat} {B : Option Addr} {Z E : Nat} {D : List Int} (ho : w2.ownsRow (q + 5) 22 1 (.slice A (k3 + 1) C) (k3 + 1) (vs ++ [.slice B Z E])) (hb : Below (q + 5) (V.alloc o) w2) (hg : (V.alloc o).grownBy w2 (Value.slice A3 k3 C3).ownBlock)
    (hD : V.ownsRow (q + 5) 5 1 (.slice B Z E) Z (u8s D)) (hZ : Z ≤ 1000000) (hf : ∀ z ∈ D, Fits8 z) :
    RepSt q w (w2.setCell ⟨q + 2, 0, none⟩ (.slice A (k3 + 1) C)) aa cs (Ds ++ [D]) (vs ++ [.slice B Z E]) k1 A1 C1 k2 A2 C2 (k3 + 1) A C L n c := by
  exact ⟨((h.ans.alloc o).below hb (by omega)).set_other (by show q ≠ q + 2; omega) _, ((h.cks.alloc o).below hb (by omega)).set_other (by show q + 1 ≠ q + 2; omega) _, ((h.dat.alloc o).below hb (by omega)).set 0 _, ((h.flag.alloc o).below hb (by omega)).set_other (by show q + 3 ≠ q + 2; omega) _, ((h.left.alloc o).below hb (by omega)).set_other (by show q + 4 ≠ q + 2; omega) _,
    ownsRow_setCell_below ((h.own1.alloc o).kept hg (own_apart (h.own1.alloc o) (h.own3.alloc o) (by decide))) (by show q + 2 < q + 5; omega) _, ownsRow_setCell_below ((h.own2.alloc o).kept hg (own_apart (h.own2.alloc o) (h.own3.alloc o) (by decide))) (by show q + 2 < q + 5; omega) _, ownsRow_setCell_below ho (by show q + 2 < q + 5; omega) _,
    (h.ds.snoc hD hZ hf).map (fun _ _ _ _ p => ownsRow_setCell_below ((p.alloc o).kept hg (own_apart (p.alloc o) (h.own3.alloc o) (by decide))) (by show q + 2 < q + 5; omega) _),
    ((h.bel.alloc (by have := h.size; omega) o).trans (hb.mono (by omega))).setCell (by show q ≤ q + 2; omega) _, by have h1 := h.size; have h2 := hb.size; simp at h2; simp [World.setCell]; omega⟩
end
/-- What Replies tells. -/
def RepGot (q : Nat) (w : World) (R : List Rp) (B : Bool) (e : Ending) (w' : World) : Prop :=
  ∃ A1 k C1 A2 C2 A3 C3, e = .returned (.tuple #[.slice A1 k C1, .slice A2 k C2, .slice A3 k C3, .bool B]) ∧ NIn .u32 w' A1 k (R.map Rp.a) ∧ NIn .u64 w' A2 k (R.map Rp.c) ∧ BsIn w' A3 k (R.map Rp.d) ∧ Below q w w'
def catchE (q : Nat) : List Deferred := [{ target := .fn (.func 33) #[.pointer (some ⟨q, 0, none⟩), .pointer (some ⟨q + 1, 0, none⟩), .pointer (some ⟨q + 2, 0, none⟩), .pointer (some ⟨q + 3, 0, none⟩)], args := #[] }]
theorem bsin_none (w : World) : BsIn w none 0 [] := ⟨rfl, Nat.zero_le _, .inl rfl⟩
section
variable {q : Nat} {w V V' : World} {aa cs : List Int} {Ds : List (List Int)} {vs : List Value} {k1 : Nat} {A1 : Option Addr} {C1 : Nat} {k2 : Nat} {A2 : Option Addr} {C2 : Nat} {k3 : Nat} {A3 : Option Addr} {C3 : Nat} {L : Option Addr} {n c : Nat}
theorem RepSt.four (h : RepSt q w V aa cs Ds vs k1 A1 C1 k2 A2 C2 k3 A3 C3 L n c) (v0 v1 v2 v3 : Value) :
    ((((V.setCell ⟨q, 0, none⟩ v0).setCell ⟨q + 1, 0, none⟩ v1).setCell ⟨q + 2, 0, none⟩ v2).setCell ⟨q + 3, 0, none⟩ v3).cell? ⟨q, 0, none⟩ = some v0 ∧
    ((((V.setCell ⟨q, 0, none⟩ v0).setCell ⟨q + 1, 0, none⟩ v1).setCell ⟨q + 2, 0, none⟩ v2).setCell ⟨q + 3, 0, none⟩ v3).cell? ⟨q + 1, 0, none⟩ = some v1 ∧
    ((((V.setCell ⟨q, 0, none⟩ v0).setCell ⟨q + 1, 0, none⟩ v1).setCell ⟨q + 2, 0, none⟩ v2).setCell ⟨q + 3, 0, none⟩ v3).cell? ⟨q + 2, 0, none⟩ = some v2 ∧
    ((((V.setCell ⟨q, 0, none⟩ v0).setCell ⟨q + 1, 0, none⟩ v1).setCell ⟨q + 2, 0, none⟩ v2).setCell ⟨q + 3, 0, none⟩ v3).cell? ⟨q + 3, 0, none⟩ = some v3 ∧
    Below q w ((((V.setCell ⟨q, 0, none⟩ v0).setCell ⟨q + 1, 0, none⟩ v1).setCell ⟨q + 2, 0, none⟩ v2).setCell ⟨q + 3, 0, none⟩ v3) := by
  refine ⟨?_, ?_, ?_, ?_, (((h.bel.setCell (Nat.le_refl _) _).setCell (by show q ≤ q + 1; omega) _).setCell (by show q ≤ q + 2; omega) _).setCell (by show q ≤ q + 3; omega) _⟩
  · exact ((((h.ans.set 0 v0).set_other (by show q ≠ q + 1; omega) v1).set_other (by show q ≠ q + 2; omega) v2).set_other (by show q ≠ q + 3; omega) v3).cell 0
  · exact ((((h.cks.set_other (by show q + 1 ≠ q; omega) v0).set 0 v1).set_other (by show q + 1 ≠ q + 2; omega) v2).set_other (by show q + 1 ≠ q + 3; omega) v3).cell 0
  · exact ((((h.dat.set_other (by show q + 2 ≠ q; omega) v0).set_other (by show q + 2 ≠ q + 1; omega) v1).set 0 v2).set_other (by show q + 2 ≠ q + 3; omega) v3).cell 0
  · exact ((((h.flag.set_other (by show q + 3 ≠ q; omega) v0).set_other (by show q + 3 ≠ q + 1; omega) v1).set_other (by show q + 3 ≠ q + 2; omega) v2).set 0 v3).cell 0
/-- It panicked. -/
theorem rep_died {R0 : List Rp} {B0 : Bool} (hR : R0 = [] ∧ B0 = false) (st : RepSt q w V aa cs Ds vs k1 A1 C1 k2 A2 C2 k3 A3 C3 L n c) (tmps : Array Value) (h4 : tmps.getD 4 undef = .pointer (some ⟨q, 0, none⟩)) (h5 : tmps.getD 5 undef = .pointer (some ⟨q + 1, 0, none⟩)) (h6 : tmps.getD 6 undef = .pointer (some ⟨q + 2, 0, none⟩)) (h7 : tmps.getD 7 undef = .pointer (some ⟨q + 3, 0, none⟩)) :
    Leaves Try.prog Try.f19 tmps (RepGot q w R0 B0) (catchE q) (.panicking [{ v := .iface 9 (.string tooEarly), recovered := false }]) V := by
  obtain ⟨rfl, rfl⟩ := hR
  refine leaves_cons (f := 33) (args := #[.pointer (some ⟨q, 0, none⟩), .pointer (some ⟨q + 1, 0, none⟩), .pointer (some ⟨q + 2, 0, none⟩), .pointer (some ⟨q + 3, 0, none⟩)]) (by simp) (by simp [go_sem]) ?_
  refine (catchR_panicking q 9 _ [] _ _ _ _ _ (st.ans.cell 0) (st.cks.cell 0) (st.dat.cell 0) (st.flag.cell 0) (st.ans.frozen 0) (st.cks.frozen 0) (st.dat.frozen 0) (st.flag.frozen 0)).mono ?_
  rintro e u' w'' ⟨rfl, rfl, rfl⟩
  obtain ⟨t1, t2, t3, t4, t5⟩ := st.four (.slice none 0 0) (.slice none 0 0) (.slice none 0 0) (.bool false)
  exact ⟨_, rep_results q tmps _ _ _ _ _ h4 h5 h6 h7 t1 t2 t3 t4, none, 0, 0, none, 0, none, 0, rfl, nin_none _ _, nin_none _ _, bsin_none _, t5⟩
/-- It returned nothing. -/
theorem rep_none {R0 : List Rp} {B0 : Bool} (hR : R0 = [] ∧ B0 = false) (st : RepSt q w V aa cs Ds vs k1 A1 C1 k2 A2 C2 k3 A3 C3 L n c) (tmps : Array Value) (h4 : tmps.getD 4 undef = .pointer (some ⟨q, 0, none⟩)) (h5 : tmps.getD 5 undef = .pointer (some ⟨q + 1, 0, none⟩)) (h6 : tmps.getD 6 undef = .pointer (some ⟨q + 2, 0, none⟩)) (h7 : tmps.getD 7 undef = .pointer (some ⟨q + 3, 0, none⟩)) :
    Leaves Try.prog Try.f19 tmps (RepGot q w R0 B0) (catchE q) .returning ((((V.setCell ⟨q, 0, none⟩ (.slice none 0 0)).setCell ⟨q + 1, 0, none⟩ (.slice none 0 0)).setCell ⟨q + 2, 0, none⟩ (.slice none 0 0)).setCell ⟨q + 3, 0, none⟩ (.bool false)) := by
  obtain ⟨rfl, rfl⟩ := hR
  refine leaves_cons (f := 33) (args := #[.pointer (some ⟨q, 0, none⟩), .pointer (some ⟨q + 1, 0, none⟩), .pointer (some ⟨q + 2, 0, none⟩), .pointer (some ⟨q + 3, 0, none⟩)]) (by simp) (by simp [go_sem]) ?_
  refine (catchR_idle _ _ _ _ _).mono ?_
  rintro e u' w'' ⟨rfl, rfl, rfl⟩
  obtain ⟨t1, t2, t3, t4, t5⟩ := st.four (.slice none 0 0) (.slice none 0 0) (.slice none 0 0) (.bool false)
  exact ⟨_, rep_results q tmps _ _ _ _ _ h4 h5 h6 h7 t1 t2 t3 t4, none, 0, 0, none, 0, none, 0, rfl, nin_none _ _, nin_none _ _, bsin_none _, t5⟩
/-- It returned them. -/
theorem rep_told {P : List Rp} {k : Nat} {R0 : List Rp} {B0 : Bool} (hR : R0 = P ∧ B0 = true) (st : RepSt q w V (P.map Rp.a) (P.map Rp.c) (P.map Rp.d) vs k A1 C1 k A2 C2 k A3 C3 L n c) (hk : k ≤ 100000) (ha : ∀ z ∈ P.map Rp.a, (Lit.int .u32 z).wf = true) (hc : ∀ z ∈ P.map Rp.c, (Lit.int .u64 z).wf = true) (tmps : Array Value) (h4 : tmps.getD 4 undef = .pointer (some ⟨q, 0, none⟩)) (h5 : tmps.getD 5 undef = .pointer (some ⟨q + 1, 0, none⟩)) (h6 : tmps.getD 6 undef = .pointer (some ⟨q + 2, 0, none⟩)) (h7 : tmps.getD 7 undef = .pointer (some ⟨q + 3, 0, none⟩)) :
    Leaves Try.prog Try.f19 tmps (RepGot q w R0 B0) (catchE q) .returning ((((V.setCell ⟨q, 0, none⟩ (.slice A1 k C1)).setCell ⟨q + 1, 0, none⟩ (.slice A2 k C2)).setCell ⟨q + 2, 0, none⟩ (.slice A3 k C3)).setCell ⟨q + 3, 0, none⟩ (.bool true)).drew := by
  obtain ⟨rfl, rfl⟩ := hR
  obtain ⟨t1, t2, t3, t4, t5⟩ := st.four (.slice A1 k C1) (.slice A2 k C2) (.slice A3 k C3) (.bool true)
  have keep : ∀ (t : TypeId) (v : Value) (m : Nat) (zs : List Value), V.ownsRow (q + 5) t 1 v m zs → ((((V.setCell ⟨q, 0, none⟩ (.slice A1 k C1)).setCell ⟨q + 1, 0, none⟩ (.slice A2 k C2)).setCell ⟨q + 2, 0, none⟩ (.slice A3 k C3)).setCell ⟨q + 3, 0, none⟩ (.bool true)).ownsRow (q + 5) t 1 v m zs := fun t v m zs o =>
    ownsRow_setCell_below (ownsRow_setCell_below (ownsRow_setCell_below (ownsRow_setCell_below o (by show q < q + 5; omega) _) (by show q + 1 < q + 5; omega) _) (by show q + 2 < q + 5; omega) _) (by show q + 3 < q + 5; omega) _
  generalize World.setCell (World.setCell (World.setCell (World.setCell V _ _) _ _) _ _) _ _ = Y at t1 t2 t3 t4 t5 keep ⊢
  refine leaves_cons (f := 33) (args := #[.pointer (some ⟨q, 0, none⟩), .pointer (some ⟨q + 1, 0, none⟩), .pointer (some ⟨q + 2, 0, none⟩), .pointer (some ⟨q + 3, 0, none⟩)]) (by simp) (by simp [go_sem]) ?_
  refine (catchR_idle _ _ _ _ _).mono ?_
  rintro e u' w'' ⟨rfl, rfl, rfl⟩
  refine ⟨_, rep_results q tmps _ _ _ _ _ h4 h5 h6 h7 t1 t2 t3 t4, A1, k, C1, A2, C2, A3, C3, rfl, own_nin (keep _ _ _ _ st.own1).drew (by unfold maxLen; omega) ha, own_nin (keep _ _ _ _ st.own2).drew (by unfold maxLen; omega) hc, ?_, t5.drew⟩
  exact (st.ds.map (fun _ _ _ _ o => (keep _ _ _ _ o).drew)).bsin (keep _ _ _ _ st.own3).drew (by omega)
end
end Go.Proofs.Ytlfmdplaoalahaa
