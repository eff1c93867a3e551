/- The program's map in the world; what one call of New, place, Get and At does. -/
import Derived.Test.YtconfkgadmjhhaaLmMap
import Derived.BigRegion
namespace Go.Proofs.Ytconfkgadmjhhaa
open Go.RowKit
set_option linter.unusedVariables false
set_option maxRecDepth 4000

theorem results_cell_two {P : Program} {fn : Func} {p u : Tmp} {ty : TypeId} (h : fn.results = #[.cell p ty, .tmp u]) (tmps : Array Value) (w : World) (g : Nat) (L : List Value) (t : TypeId) (d : TypeDesc) (hp : tmps.getD p undef = .pointer (some ⟨g, 0, none⟩))
    (hb : Blk w g L t) (hu : P.underlying ty = some d) (hd : d.isRow = true) (hi : (P.info? ty).map (·.size) = some L.length) (x : Value) (hx : tmps.getD u undef = x) : (results fn tmps).run P w = .ok (.tuple #[.agg L.toArray, x]) w := by
  subst hx
  have hl := run_loadVar_row (P := P) w g t ty L.toArray (0, 0) d hb hu (by cases d <;> first | rfl | cases hd) (by simpa using hi)
  have : (results fn tmps).run P w = ((asAddr (tmps.getD p undef)).run P w).andThen fun a w₁ => ((loadVar ty a).run P w₁).andThen fun z w₂ => .ok (.tuple #[z, tmps.getD u undef]) w₂ := by
    simp only [results, h]
    simp [Sem.run_bind, Result.andThen]
  rw [this, hp]
  simp [asAddr, hl, Result.andThen]

/-- A place's cells. -/
def plL (p : Pl) : List Value := [.int .u32 p.1.1, .int .u64 p.1.2, .int .i64 p.2.1, .int .i64 p.2.2]
def plV (p : Pl) : Value := .agg (plL p).toArray
def prL (q0 q1 : IntKind) (x : Pr) : List Value := [.int q0 x.1, .int q1 x.2]
def pl0 : Pl := ((0, 0), (0, 0))

/-- The program's map behind p: its blocks, and all places in it. -/
structure LmP (w : World) (p b1 b2 : Nat) (S : List Pl) (c : Nat) : Prop where
  hp : Blk w p [.map (some b1), .map (some b2)] 57
  m1 : MapIs kN w b1 c (fun n s => (n, s) ∈ S)
  m2 : MapIs kS w b2 c (fun s n => (n, s) ∈ S)
  ne : b1 ≠ b2
  good : Good S
section
variable {w w' : World} {p b1 b2 : Nat} {S : List Pl} {c : Nat}
theorem LmP.same (h : LmP w p b1 b2 S c) (hs : ∀ k, k = p ∨ k = b1 ∨ k = b2 → w'.heap[k]? = w.heap[k]?) : LmP w' p b1 b2 S c :=
  ⟨by unfold Blk; rw [hs p (.inl rfl)]; exact h.hp, h.m1.same (hs b1 (.inr (.inl rfl))), h.m2.same (hs b2 (.inr (.inr rfl))), h.ne, h.good⟩
theorem LmP.lt (h : LmP w p b1 b2 S c) : ∀ k, k = p ∨ k = b1 ∨ k = b2 → k < w.heap.size := by
  rintro k (rfl | rfl | rfl)
  · exact h.hp.lt
  · exact h.m1.lt
  · exact h.m2.lt
theorem LmP.below (h : LmP w p b1 b2 S c) (hb : Below w.heap.size w w') : LmP w' p b1 b2 S c := h.same (fun k hk => hb.block k (h.lt k hk))
theorem LmP.out {O : Nat → Prop} (h : LmP w p b1 b2 S c) (ho : Out O w w') (hn : ∀ k, k = p ∨ k = b1 ∨ k = b2 → ¬ O k) : LmP w' p b1 b2 S c := h.same (fun k hk => ho.block k (h.lt k hk) (hn k hk))
theorem LmP.alloc (h : LmP w p b1 b2 S c) (o : Obj) : LmP (w.alloc o) p b1 b2 S c := h.below ((Below.refl _ _).alloc (Nat.le_refl _) o)
theorem LmP.drew (h : LmP w p b1 b2 S c) : LmP w.drew p b1 b2 S c := h.same (fun _ _ => rfl)
theorem LmP.drewN (h : LmP w p b1 b2 S c) (q : Nat) : LmP (w.drewN q) p b1 b2 S c := h.same (fun _ _ => rfl)
theorem LmP.mono {c' : Nat} (h : LmP w p b1 b2 S c) (hc : c ≤ c') : LmP w p b1 b2 S c' := ⟨h.hp, h.m1.mono hc, h.m2.mono hc, h.ne, h.good⟩
theorem LmP.lookN (h : LmP w p b1 b2 S c) {n : Pr} (hn : FitsN n) : (Instr.lookup 54 (.map (some b1)) (.agg #[.int .u32 n.1, .int .u64 n.2]) true).run Try.prog w = .ok (.tuple #[.agg #[.int .i64 ((getS S n).getD (0, 0)).1, .int .i64 ((getS S n).getD (0, 0)).2], .bool (getS S n).isSome]) w :=
  h.m1.look okN (fitsN_ok hn) (getS S n) (fun y => getS_some h.good)
theorem LmP.lookN1 (h : LmP w p b1 b2 S c) {n : Pr} (hn : FitsN n) : (Instr.lookup 54 (.map (some b1)) (.agg #[.int .u32 n.1, .int .u64 n.2]) false).run Try.prog w = .ok (.agg #[.int .i64 ((getS S n).getD (0, 0)).1, .int .i64 ((getS S n).getD (0, 0)).2]) w :=
  h.m1.look1 okN (fitsN_ok hn) (getS S n) (fun y => getS_some h.good)
theorem LmP.lookS (h : LmP w p b1 b2 S c) {s : Pr} (hs : FitsS s) : (Instr.lookup 55 (.map (some b2)) (.agg #[.int .i64 s.1, .int .i64 s.2]) true).run Try.prog w = .ok (.tuple #[.agg #[.int .u32 ((atS S s).getD (0, 0)).1, .int .u64 ((atS S s).getD (0, 0)).2], .bool (atS S s).isSome]) w :=
  h.m2.look okS (fitsS_ok hs) (atS S s) (fun y => atS_some h.good)
theorem LmP.lookS1 (h : LmP w p b1 b2 S c) {s : Pr} (hs : FitsS s) : (Instr.lookup 55 (.map (some b2)) (.agg #[.int .i64 s.1, .int .i64 s.2]) false).run Try.prog w = .ok (.agg #[.int .u32 ((atS S s).getD (0, 0)).1, .int .u64 ((atS S s).getD (0, 0)).2]) w :=
  h.m2.look1 okS (fitsS_ok hs) (atS S s) (fun y => atS_some h.good)
end

theorem mNew_of (w : World) : Calls Try.prog 9 #[] w fun e w' => ∃ p b1 b2, e = .returned (.pointer (some ⟨p, 0, none⟩)) ∧ LmP w' p b1 b2 [] 0 ∧ Below w.heap.size w w' ∧ w.heap.size ≤ p ∧ w.heap.size ≤ b1 ∧ w.heap.size ≤ b2 := by
  have hmm := @run_makeMap Try.prog
  go_enter Try.func9, Try.ntmps9
  go_wp2
  go_ret
  have e1 := (MapIs.made kN w).congr (M' := fun n s => (n, s) ∈ ([] : List Pl)) (fun x y _ => by simp)
  have e2 := (MapIs.made kS (w.alloc (.map #[] 0))).congr (M' := fun s n => (n, s) ∈ ([] : List Pl)) (fun x y _ => by simp)
  have s1 : (w.alloc (.map #[] 0)).heap.size = w.heap.size + 1 := by simp
  rw [s1] at e2
  refine ⟨w.heap.size + 2, w.heap.size, w.heap.size + 1, rfl, ⟨?_, ?_, ?_, by omega, good_nil⟩, ?_, by omega, by omega, by omega⟩
  · exact Blk.new' (by simp) rfl
  · exact (e1.same (Below.heap_alloc _ _ _ e1.lt)).same (Below.heap_alloc _ _ _ (Nat.lt_of_lt_of_le e1.lt (by simp)))
  · exact e2.same (Below.heap_alloc _ _ _ e2.lt)
  · exact (((Below.refl _ _).alloc (Nat.le_refl _) _).alloc (by simp) _).alloc (by simp; omega) _
theorem Try.info_place : (Try.prog.info? 34).map (·.size) = some 4 := by kernel_rfl
theorem Try.info_addr : (Try.prog.info? 32).map (·.size) = some 2 := by kernel_rfl
theorem mPlace_of (n s : Pr) (w : World) : Calls Try.prog 27 #[.agg #[.int .u32 n.1, .int .u64 n.2], .agg #[.int .i64 s.1, .int .i64 s.2]] w fun e w' => e = .returned (.agg #[.int .u32 n.1, .int .u64 n.2, .int .i64 s.1, .int .i64 s.2]) ∧ Below w.heap.size w w' := by
  have hB : Blk (((w.alloc (.cells #[.int .u32 n.1, .int .u64 n.2] 63)).alloc (.cells #[.int .i64 s.1, .int .i64 s.2] 60)).alloc (.cells #[.int .u32 n.1, .int .u64 n.2, .int .i64 s.1, .int .i64 s.2] 34)) (w.heap.size + 1 + 1) (plL (n, s)) 34 := Blk.new' (by simp) rfl
  have hb : Below w.heap.size w (((w.alloc (.cells #[.int .u32 n.1, .int .u64 n.2] 63)).alloc (.cells #[.int .i64 s.1, .int .i64 s.2] 60)).alloc (.cells #[.int .u32 n.1, .int .u64 n.2, .int .i64 s.1, .int .i64 s.2] 34)) := (((Below.refl _ _).alloc (Nat.le_refl _) _).alloc (by simp) _).alloc (by simp; omega) _
  have H : Hid (Blk _ _ _ _ ∧ Below _ _ _) := ⟨hB, hb⟩
  clear hB hb
  go_enter Try.func27, Try.ntmps27
  go_wp2
  exact bodyPost_ret (results_cell_one (p := 4) (ty := 34) rfl _ _ _ _ _ _ rfl H.out.1 Try.underlying34 rfl Try.info_place) rfl ⟨rfl, H.out.2⟩
theorem mGet_of (p b1 b2 : Nat) (S : List Pl) (c : Nat) (n : Pr) (w : World) (h : LmP w p b1 b2 S c) (hn : FitsN n) :
    Calls Try.prog 12 #[.pointer (some ⟨p, 0, none⟩), .int .u32 n.1, .int .u64 n.2] w fun e w' => e = .returned (.tuple #[.agg #[.int .i64 ((getS S n).getD (0, 0)).1, .int .i64 ((getS S n).getD (0, 0)).2], .bool (getS S n).isSome]) ∧ Below w.heap.size w w' := by
  have c0 := (h.alloc (.cells #[.int .i64 0, .int .i64 0] 32)).hp.cell 0
  have hl := (h.alloc (.cells #[.int .i64 0, .int .i64 0] 32)).lookN hn
  simp only [List.getElem?_cons_zero] at c0
  clear h hn
  generalize (getS S n).isSome = o at hl ⊢
  generalize (getS S n).getD (0, 0) = s at hl ⊢
  have hB : Blk ((w.alloc (.cells #[.int .i64 s.1, .int .i64 s.2] 32)).alloc (.cells #[.int .i64 s.1, .int .i64 s.2] 60)) w.heap.size (prL .i64 .i64 s) 32 := (Blk.new' rfl rfl).alloc _
  have hb : Below w.heap.size w ((w.alloc (.cells #[.int .i64 s.1, .int .i64 s.2] 32)).alloc (.cells #[.int .i64 s.1, .int .i64 s.2] 60)) := (((Below.refl _ _).alloc (Nat.le_refl _) _).alloc (by simp) _)
  have H : Hid (Blk _ _ _ _ ∧ Below _ _ _) := ⟨hB, hb⟩
  clear hB hb
  go_enter Try.func12, Try.ntmps12
  go_wp2
  exact bodyPost_ret (results_cell_two (p := 6) (u := 7) (ty := 32) rfl _ _ _ _ _ _ rfl H.out.1 Try.underlying32 rfl Try.info_addr _ rfl) rfl ⟨rfl, H.out.2⟩
def atV (o : Option Pr) (s : Pr) : Value := match o with | some n => plV (n, s) | none => plV pl0
theorem mAt_of (p b1 b2 : Nat) (S : List Pl) (c : Nat) (s : Pr) (w : World) (h : LmP w p b1 b2 S c) (hs : FitsS s) :
    Calls Try.prog 14 #[.pointer (some ⟨p, 0, none⟩), .agg #[.int .i64 s.1, .int .i64 s.2]] w fun e w' => e = .returned (.tuple #[atV (atS S s) s, .bool (atS S s).isSome]) ∧ Below w.heap.size w w' := by
  have hh := ((h.alloc (.cells #[.int .i64 s.1, .int .i64 s.2] 32)).alloc (.cells #[.int .u32 0, .int .u64 0, .int .i64 0, .int .i64 0] 34))
  have c1 := hh.hp.cell 1
  have hl := hh.drew.lookS hs
  have hh2 := hh.alloc (.cells #[.int .u32 0, .int .u64 0] 63)
  have d1 := hh2.hp.cell 1
  have hl2 := hh2.drew.lookS hs
  simp only [List.getElem?_cons_succ, List.getElem?_cons_zero] at c1 d1
  clear hh hh2 h
  cases ho : atS S s with
  | none =>
    simp only [ho, Option.getD_none, Option.isSome_none] at hl hl2
    clear ho
    have H : Hid (Blk (((w.alloc (.cells #[.int .i64 s.1, .int .i64 s.2] 32)).alloc (.cells #[.int .u32 0, .int .u64 0, .int .i64 0, .int .i64 0] 34)).alloc (.cells #[.int .u32 0, .int .u64 0] 63)).drew (w.heap.size + 1) (plL pl0) 34 ∧ Below w.heap.size w (((w.alloc (.cells #[.int .i64 s.1, .int .i64 s.2] 32)).alloc (.cells #[.int .u32 0, .int .u64 0, .int .i64 0, .int .i64 0] 34)).alloc (.cells #[.int .u32 0, .int .u64 0] 63)).drew) :=
      ⟨((Blk.new' (by simp) rfl).alloc _).drew, below_drew ((((Below.refl _ _).alloc (Nat.le_refl _) _).alloc (by simp) _).alloc (by simp; omega) _)⟩
    go_enter Try.func14, Try.ntmps14
    go_wp2
    go_region
    all_goals go_wp2
    all_goals exact bodyPost_ret (results_cell_two (p := 4) (u := 5) (ty := 34) rfl _ _ _ _ _ _ rfl H.out.1 Try.underlying34 rfl Try.info_place _ rfl) rfl ⟨rfl, H.out.2⟩
  | some n =>
    simp only [ho, Option.getD_some, Option.isSome_some] at hl hl2
    clear ho
    have H : Hid (Blk (((w.alloc (.cells #[.int .i64 s.1, .int .i64 s.2] 32)).alloc (.cells #[.int .u32 0, .int .u64 0, .int .i64 0, .int .i64 0] 34)).alloc (.cells #[.int .u32 n.1, .int .u64 n.2] 63)).drew (w.heap.size + 1) (plL pl0) 34 ∧ Below w.heap.size w (((w.alloc (.cells #[.int .i64 s.1, .int .i64 s.2] 32)).alloc (.cells #[.int .u32 0, .int .u64 0, .int .i64 0, .int .i64 0] 34)).alloc (.cells #[.int .u32 n.1, .int .u64 n.2] 63)).drew) :=
      ⟨((Blk.new' (by simp) rfl).alloc _).drew, below_drew ((((Below.refl _ _).alloc (Nat.le_refl _) _).alloc (by simp) _).alloc (by simp; omega) _)⟩
    go_enter Try.func14, Try.ntmps14
    go_wp2
    go_region
    all_goals go_wp2_with fail
    all_goals refine (mPlace_of n s _).mono ?_
    all_goals rintro e w' ⟨rfl, hb⟩
    all_goals have hB := H.out.1.below hb H.out.1.lt
    all_goals have hb2 := below_on H.out.2 hb
    all_goals have H2 : Hid (Blk w' (w.heap.size + 1) (plL pl0) 34 ∧ Below w.heap.size w w') := ⟨hB, hb2⟩
    all_goals have x0 := hB.cell 0
    all_goals have x1 := hB.cell 1
    all_goals have x2 := hB.cell 2
    all_goals have x3 := hB.cell 3
    all_goals have y0 := hB.frozen 0
    all_goals have y1 := hB.frozen 1
    all_goals have y2 := hB.frozen 2
    all_goals have y3 := hB.frozen 3
    all_goals simp only [plL, pl0, List.getElem?_cons_zero, List.getElem?_cons_succ] at x0 x1 x2 x3
    all_goals clear hB hb hb2 H
    all_goals go_wp2
    all_goals exact bodyPost_ret (results_cell_two (p := 4) (u := 5) (ty := 34) rfl _ _ _ _ _ _ rfl ((((H2.out.1.set 0 _).set 1 _).set 2 _).set 3 _) Try.underlying34 rfl Try.info_place _ rfl) rfl ⟨rfl, (((H2.out.2.setCell (by simp) _).setCell (by simp) _).setCell (by simp) _).setCell (by simp) _⟩
end Go.Proofs.Ytconfkgadmjhhaa
