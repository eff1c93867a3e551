/- P31 -/
import Derived.Maps.OwnSet
import Derived.Maps.RangeWalk
import Derived.Maps.Ext
import Derived.WideKeyEntry
import Derived.DeepKeys4
import Derived.WalkArith
import Derived.Test.YtcdnjeiamihhbabGreatP30
set_option linter.unusedVariables false
set_option maxRecDepth 4000
namespace Go.Proofs.YtcdnjeiamihhbabGreat
open Go.RowKit
section
theorem Tryz.laidO : laidOutB Tryz.prog = true := by kernel_rfl
def encP (q0 q1 : IntKind) (x : Pr) : Value := .agg #[.int q0 x.1, .int q1 x.2]
def klP (q0 q1 : IntKind) (x : Pr) : Lit := .string (keyBytes [.int q0 x.1, .int q1 x.2])
theorem Tryz.tsz : Tryz.prog.types.size + 1 = 333 + 2 := by kernel_rfl
theorem Tryz.cellsI : Tryz.prog.cellsOf 3 = 1 := by kernel_rfl
theorem Tryz.cells4 : Tryz.prog.cellsOf 48 = 1 := by kernel_rfl
theorem Tryz.cells8 : Tryz.prog.cellsOf 36 = 1 := by kernel_rfl
theorem lits_int {t : TypeId} {q : IntKind} (hu : Tryz.prog.underlying t = some (.int q)) {d : Nat} {a : Value} {l : List Lit} (h : Tryz.prog.keyLits (d + 1) t [a] = some l) : ∃ x, a = .int q x ∧ (Lit.int q x).wf = true ∧ l = [.int q x] := by
 cases a <;> simp [Program.keyLits, hu] at h
 obtain ⟨⟨rfl, hw⟩, rfl⟩ := h
 exact ⟨_, rfl, hw, rfl⟩
theorem Tryz.wideN : (match Tryz.prog.underlying 180 with | some (.array _ _) | some (.struct _) => true | _ => false) = true := by rw [Tryz.underlying180]
theorem Tryz.lawN : WideMaps.KeyLaw Tryz.prog 180 := deep_law_laid Tryz.laidO (m := 2) (by omega) (of_decide_eq_true (by kernel_rfl)) (by kernel_rfl) Tryz.wideN
theorem Tryz.keyTN : Tryz.prog.keyType 180 = true := by kernel_rfl
theorem Tryz.cellsN : Tryz.prog.cellsOf 180 = 2 := by kernel_rfl
theorem litsN_eq (d : Nat) (a b : Value) : Tryz.prog.keyLits (d + 2) 180 [a, b] = (Tryz.prog.keyLits (d + 1) 48 [a]).bind fun la => (Tryz.prog.keyLits (d + 1) 36 [b]).bind fun lb => some (la ++ lb) := by
 conv => lhs; unfold Program.keyLits
 rw [Tryz.underlying180]
 cases h1 : Tryz.prog.keyLits (d + 1) 48 [a] <;> cases h2 : Tryz.prog.keyLits (d + 1) 36 [b] <;> simp [Tryz.cellsN, Tryz.cells4, Tryz.cells8, h1, h2]
theorem litsN (d : Nat) (a b : Value) (l : List Lit) (h : Tryz.prog.keyLits (d + 2) 180 [a, b] = some l) : ∃ x y, a = .int .u32 x ∧ b = .int .u64 y ∧ (Lit.int .u32 x).wf = true ∧ (Lit.int .u64 y).wf = true ∧ l = [.int .u32 x, .int .u64 y] := by
 rw [litsN_eq] at h
 obtain ⟨la, h1, h⟩ := Option.bind_eq_some_iff.1 h
 obtain ⟨lb, h2, h⟩ := Option.bind_eq_some_iff.1 h
 obtain ⟨x, rfl, hx, rfl⟩ := lits_int Tryz.underlying48 h1
 obtain ⟨y, rfl, hy, rfl⟩ := lits_int Tryz.underlying36 h2
 cases h
 exact ⟨x, y, rfl, rfl, hx, hy, rfl⟩
theorem litsN_mk (d : Nat) (x y : Int) (h1 : (Lit.int .u32 x).wf = true) (h2 : (Lit.int .u64 y).wf = true) : Tryz.prog.keyLits (d + 2) 180 [.int .u32 x, .int .u64 y] = some [.int .u32 x, .int .u64 y] := by
 simp [Program.keyLits, Tryz.underlying180, Tryz.underlying48, Tryz.underlying36, Tryz.cellsN, Tryz.cells4, Tryz.cells8, h1, h2]
theorem keyN_mk {x : Pr} (h1 : (Lit.int .u32 x.1).wf = true) (h2 : (Lit.int .u64 x.2).wf = true) : keyOf Tryz.prog 180 (encP .u32 .u64 x) = some (klP .u32 .u64 x) := by
 unfold keyOf encP klP
 simp [Tryz.underlying180, Tryz.keyTN, Value.formed, Tryz.cellsN, Value.cells, litsN_mk _ _ _ h1 h2]
theorem keyN_inv {v : Value} {l : Lit} (h : keyOf Tryz.prog 180 v = some l) : ∃ x : Pr, v = encP .u32 .u64 x ∧ ((Lit.int .u32 x.1).wf = true ∧ (Lit.int .u64 x.2).wf = true) ∧ l = klP .u32 .u64 x := by
 unfold keyOf at h
 simp only [Tryz.underlying180, Tryz.keyTN, Bool.true_and] at h
 split at h
 ·rename_i hf
  cases v <;> simp [Value.formed, Tryz.underlying180, Tryz.cellsN] at hf
  rename_i cs
  obtain ⟨L, rfl⟩ : ∃ L : List Value, cs = L.toArray := ⟨cs.toList, by simp⟩
  match L, hf with
  | [a, b], _ =>
   obtain ⟨ls, h1, h2⟩ := Option.map_eq_some_iff.1 h
   rw [Tryz.tsz] at h1
   obtain ⟨x, y, rfl, rfl, hx, hy, rfl⟩ := litsN _ a b ls h1
   exact ⟨(x, y), rfl, ⟨hx, hy⟩, h2.symm⟩
 ·cases h
theorem Tryz.wideS : (match Tryz.prog.underlying 185 with | some (.array _ _) | some (.struct _) => true | _ => false) = true := by rw [Tryz.underlying185]
theorem Tryz.lawS : WideMaps.KeyLaw Tryz.prog 185 := deep_law_laid Tryz.laidO (m := 2) (by omega) (of_decide_eq_true (by kernel_rfl)) (by kernel_rfl) Tryz.wideS
theorem Tryz.keyTS : Tryz.prog.keyType 185 = true := by kernel_rfl
theorem Tryz.cellsS : Tryz.prog.cellsOf 185 = 2 := by kernel_rfl
theorem litsS_eq (d : Nat) (a b : Value) : Tryz.prog.keyLits (d + 2) 185 [a, b] = (Tryz.prog.keyLits (d + 1) 3 [a]).bind fun la => (Tryz.prog.keyLits (d + 1) 3 [b]).bind fun lb => some (la ++ lb) := by
 conv => lhs; unfold Program.keyLits
 rw [Tryz.underlying185]
 cases h1 : Tryz.prog.keyLits (d + 1) 3 [a] <;> cases h2 : Tryz.prog.keyLits (d + 1) 3 [b] <;> simp [Tryz.cellsS, Tryz.cellsI, h1, h2]
theorem litsS (d : Nat) (a b : Value) (l : List Lit) (h : Tryz.prog.keyLits (d + 2) 185 [a, b] = some l) : ∃ x y, a = .int .i64 x ∧ b = .int .i64 y ∧ (Lit.int .i64 x).wf = true ∧ (Lit.int .i64 y).wf = true ∧ l = [.int .i64 x, .int .i64 y] := by
 rw [litsS_eq] at h
 obtain ⟨la, h1, h⟩ := Option.bind_eq_some_iff.1 h
 obtain ⟨lb, h2, h⟩ := Option.bind_eq_some_iff.1 h
 obtain ⟨x, rfl, hx, rfl⟩ := lits_int Tryz.underlying3 h1
 obtain ⟨y, rfl, hy, rfl⟩ := lits_int Tryz.underlying3 h2
 cases h
 exact ⟨x, y, rfl, rfl, hx, hy, rfl⟩
theorem litsS_mk (d : Nat) (x y : Int) (h1 : (Lit.int .i64 x).wf = true) (h2 : (Lit.int .i64 y).wf = true) : Tryz.prog.keyLits (d + 2) 185 [.int .i64 x, .int .i64 y] = some [.int .i64 x, .int .i64 y] := by
 simp [Program.keyLits, Tryz.underlying185, Tryz.underlying3, Tryz.cellsS, Tryz.cellsI, h1, h2]
theorem keyS_mk {x : Pr} (h1 : (Lit.int .i64 x.1).wf = true) (h2 : (Lit.int .i64 x.2).wf = true) : keyOf Tryz.prog 185 (encP .i64 .i64 x) = some (klP .i64 .i64 x) := by
 unfold keyOf encP klP
 simp [Tryz.underlying185, Tryz.keyTS, Value.formed, Tryz.cellsS, Value.cells, litsS_mk _ _ _ h1 h2]
theorem keyS_inv {v : Value} {l : Lit} (h : keyOf Tryz.prog 185 v = some l) : ∃ x : Pr, v = encP .i64 .i64 x ∧ ((Lit.int .i64 x.1).wf = true ∧ (Lit.int .i64 x.2).wf = true) ∧ l = klP .i64 .i64 x := by
 unfold keyOf at h
 simp only [Tryz.underlying185, Tryz.keyTS, Bool.true_and] at h
 split at h
 ·rename_i hf
  cases v <;> simp [Value.formed, Tryz.underlying185, Tryz.cellsS] at hf
  rename_i cs
  obtain ⟨L, rfl⟩ : ∃ L : List Value, cs = L.toArray := ⟨cs.toList, by simp⟩
  match L, hf with
  | [a, b], _ =>
   obtain ⟨ls, h1, h2⟩ := Option.map_eq_some_iff.1 h
   rw [Tryz.tsz] at h1
   obtain ⟨x, y, rfl, rfl, hx, hy, rfl⟩ := litsS _ a b ls h1
   exact ⟨(x, y), rfl, ⟨hx, hy⟩, h2.symm⟩
 ·cases h
/-! A kind of map: its type, its key's, its element's; how both lie. -/
structure Kd where
 tm : TypeId
 tk : TypeId
 te : TypeId
 q0 : IntKind
 q1 : IntKind
 r0 : IntKind
 r1 : IntKind
def Kd.ok (K : Kd) (x : Pr) : Prop := (Lit.int K.q0 x.1).wf = true ∧ (Lit.int K.q1 x.2).wf = true
def Kd.enc (K : Kd) (x : Pr) : Value := encP K.q0 K.q1 x
def Kd.val (K : Kd) (y : Pr) : Value := encP K.r0 K.r1 y
def Kd.kl (K : Kd) (x : Pr) : Lit := klP K.q0 K.q1 x
structure KdOk (K : Kd) : Prop where
 law : WideMaps.KeyLaw Tryz.prog K.tk
 und : Tryz.prog.underlying K.tm = some (.map K.tk K.te)
 zero : ∀ w, (zeroValue K.te).run Tryz.prog w = .ok (K.val (0, 0)) w
 key : ∀ x, K.ok x → keyOf Tryz.prog K.tk (K.enc x) = some (K.kl x)
 inv : ∀ v l, keyOf Tryz.prog K.tk v = some l → ∃ x, v = K.enc x ∧ K.ok x ∧ l = K.kl x
theorem encP_inj {q0 q1 : IntKind} {x y : Pr} (h : encP q0 q1 x = encP q0 q1 y) : x = y := by
 unfold encP at h
 simp at h
 exact pr_eq.2 h
section
variable {K : Kd}
theorem KdOk.keyed (h : KdOk K) : Maps.Keyed Tryz.prog K.tk := Maps.Keyed.of_law h.law
theorem KdOk.inj (h : KdOk K) {x y : Pr} (hx : K.ok x) (hy : K.ok y) (e : K.kl x = K.kl y) : x = y := encP_inj (h.law.inj (h.key x hx) (e ▸ h.key y hy))
theorem KdOk.isKey (h : KdOk K) {x : Pr} (hx : K.ok x) : WideAt.IsKeyLit (K.kl x) := h.keyed.key (h.key x hx)
/-- A map's element, as it is. -/
def heldR (v : Value) : Option (DataW Value × List MemPlace) := some (.held v, [])
/-- Block b is a map of at most n entries: these. -/
def DIs (K : Kd) (D : DataW Value) (M : Pr → Pr → Prop) : Prop :=
 ∀ x, K.ok x → (Maps.has D (K.kl x) = true ↔ ∃ y, M x y) ∧ ∀ y, M x y → ∀ z, D.atKey (K.kl x) z = .held (K.val y)
def MapIs (K : Kd) (w : World) (b n : Nat) (M : Pr → Pr → Prop) : Prop := ∃ D : DataW Value, w.ownsMap Tryz.prog K.tk heldR b n D ∧ DIs K D M
variable {w w' : World} {b n : Nat} {M M' : Pr → Pr → Prop}
theorem DIs.congr {D : DataW Value} (h : DIs K D M) (he : ∀ x y, K.ok x → (M x y ↔ M' x y)) : DIs K D M' := fun x hx => by
 obtain ⟨h1, h2⟩ := h x hx
 refine ⟨h1.trans ⟨fun ⟨y, hy⟩ => ⟨y, (he x y hx).1 hy⟩, fun ⟨y, hy⟩ => ⟨y, (he x y hx).2 hy⟩⟩, fun y hy => h2 y ((he x y hx).2 hy)⟩
theorem MapIs.congr (h : MapIs K w b n M) (he : ∀ x y, K.ok x → (M x y ↔ M' x y)) : MapIs K w b n M' := by
 obtain ⟨D, h1, h2⟩ := h
 exact ⟨D, h1, h2.congr he⟩
theorem owns_same {k : TypeId} {R : Value → Option (DataW Value × List MemPlace)} {D : DataW Value} (h : w.ownsMap Tryz.prog k R b n D) (hs : w'.heap[b]? = w.heap[b]?) : w'.ownsMap Tryz.prog k R b n D := by
 obtain ⟨es, clock, hb, F, hn, hD⟩ := h
 exact ⟨es, clock, hs.trans hb, F, hn, hD⟩
theorem MapIs.same (h : MapIs K w b n M) (hs : w'.heap[b]? = w.heap[b]?) : MapIs K w' b n M := by
 obtain ⟨D, h1, h2⟩ := h
 exact ⟨D, owns_same h1 hs, h2⟩
theorem MapIs.lt (h : MapIs K w b n M) : b < w.heap.size := by obtain ⟨D, h1, _⟩ := h; exact h1.lt
theorem MapIs.mono {n' : Nat} (h : MapIs K w b n M) (hn : n ≤ n') : MapIs K w b n' M := by obtain ⟨D, h1, h2⟩ := h; exact ⟨D, h1.mono hn, h2⟩
theorem MapIs.no_blk {g : Nat} {L : List Value} {t : TypeId} (h : MapIs K w b n M) (hb : Blk w g L t) : g ≠ b := by
 rintro rfl
 obtain ⟨D, ⟨es, clock, hb', _⟩, _⟩ := h
 unfold Blk at hb
 rw [hb'] at hb
 cases hb
theorem MapIs.made (K : Kd) (w : World) : MapIs K (w.alloc (.map #[] 0)) w.heap.size 0 (fun _ _ => False) :=
 ⟨.map [], World.ownsMap_made w _ _ _, fun x _ => ⟨⟨fun h => (by cases h), fun ⟨_, h⟩ => h.elim⟩, fun _ h => h.elim⟩⟩
theorem MapIs.look (O : KdOk K) (h : MapIs K w b n M) {x : Pr} (hx : K.ok x) (o : Option Pr) (ho : ∀ y, o = some y ↔ M x y) :
  (Instr.lookup K.tm (.map (some b)) (K.enc x) true).run Tryz.prog w = .ok (.tuple #[K.val (o.getD (0, 0)), .bool o.isSome]) w := by
 obtain ⟨D, hown, hD⟩ := h
 obtain ⟨h1, h2⟩ := hD x hx
 obtain ⟨v, ps, hrun, hv⟩ := hown.look_ok O.keyed O.und (O.zero w) (zd := .held (K.val (0, 0))) (zp := []) rfl (O.key x hx)
 rw [hrun]
 cases o with
 | none =>
  have hh : Maps.has D (K.kl x) = false := by
   cases he : Maps.has D (K.kl x) with
   | false => rfl
   | true => obtain ⟨y, hy⟩ := h1.1 he; exact absurd ((ho y).2 hy) (by simp)
  rw [Maps.atKey_of_not_has hh] at hv
  have hv' : (DataW.held v, ([] : List MemPlace)) = (.held (K.val (0, 0)), ps) := Option.some.inj hv
  have : v = K.val (0, 0) := by injection hv' with h1 _; injection h1
  rw [hh, this]; rfl
 | some y =>
  have hy := (ho y).1 rfl
  have hh : Maps.has D (K.kl x) = true := h1.2 ⟨y, hy⟩
  rw [h2 y hy] at hv
  have hv' : (DataW.held v, ([] : List MemPlace)) = (.held (K.val y), ps) := Option.some.inj hv
  have : v = K.val y := by injection hv' with h1 _; injection h1
  rw [hh, this]; rfl
theorem MapIs.look1 (O : KdOk K) (h : MapIs K w b n M) {x : Pr} (hx : K.ok x) (o : Option Pr) (ho : ∀ y, o = some y ↔ M x y) :
  (Instr.lookup K.tm (.map (some b)) (K.enc x) false).run Tryz.prog w = .ok (K.val (o.getD (0, 0))) w := by
 obtain ⟨D, hown, hD⟩ := h
 obtain ⟨h1, h2⟩ := hD x hx
 obtain ⟨v, ps, hrun, hv⟩ := hown.lookup O.keyed O.und (O.zero w) (zd := .held (K.val (0, 0))) (zp := []) rfl (O.key x hx)
 rw [hrun]
 cases o with
 | none =>
  have hh : Maps.has D (K.kl x) = false := by
   cases he : Maps.has D (K.kl x) with
   | false => rfl
   | true => obtain ⟨y, hy⟩ := h1.1 he; exact absurd ((ho y).2 hy) (by simp)
  rw [Maps.atKey_of_not_has hh] at hv
  have hv' : (DataW.held v, ([] : List MemPlace)) = (.held (K.val (0, 0)), ps) := Option.some.inj hv
  have : v = K.val (0, 0) := by injection hv' with h1 _; injection h1
  rw [this]; rfl
 | some y =>
  have hy := (ho y).1 rfl
  rw [h2 y hy] at hv
  have hv' : (DataW.held v, ([] : List MemPlace)) = (.held (K.val y), ps) := Option.some.inj hv
  have : v = K.val y := by injection hv' with h1 _; injection h1
  rw [this]; rfl
theorem MapIs.drop (O : KdOk K) (h : MapIs K w b n M) {x : Pr} (hx : K.ok x) (ty : TypeId) :
  ∃ w', (Builtin.delete_ #[K.tm, K.tk] ty #[.map (some b), K.enc x]).run Tryz.prog w = .ok (.tuple #[]) w' ∧ MapIs K w' b n (fun x' y => M x' y ∧ x' ≠ x) ∧ w.mapTurned w' b := by
 obtain ⟨D, hown, hD⟩ := h
 obtain ⟨w', hrun, h1, h2⟩ := hown.drop O.keyed O.und (O.key x hx) ty
 refine ⟨w', hrun, ⟨_, h1, fun x' hx' => ?_⟩, h2⟩
 by_cases he : x' = x
 ·subst he
  rw [Maps.has_del_same]
  exact ⟨⟨fun h => (by cases h), fun ⟨_, h⟩ => absurd rfl h.2⟩, fun _ h => absurd rfl h.2⟩
 ·have hne : K.kl x' ≠ K.kl x := fun e => he (O.inj hx' hx e)
  obtain ⟨k1, k2⟩ := hD x' hx'
  rw [Maps.has_del_other hne]
  exact ⟨k1.trans ⟨fun ⟨y, hy⟩ => ⟨y, hy, he⟩, fun ⟨y, hy⟩ => ⟨y, hy.1⟩⟩, fun y hy z => by rw [Maps.atKey_del_other hne]; exact k2 y hy.1 z⟩
theorem DIs.put (O : KdOk K) {D : DataW Value} (hD : DIs K D M) (hm : Maps.IsMap D) {x : Pr} (hx : K.ok x) (y : Pr) : DIs K (D.put (K.kl x) (.held (K.val y))) (fun x' y' => (x' = x ∧ y' = y) ∨ (x' ≠ x ∧ M x' y')) := fun x' hx' => by
 by_cases he : x' = x
 ·subst he
  rw [Maps.has_put_same hm (O.isKey hx')]
  refine ⟨⟨fun _ => ⟨y, .inl ⟨rfl, rfl⟩⟩, fun _ => rfl⟩, fun y' hy' z => ?_⟩
  rcases hy' with ⟨_, rfl⟩ | ⟨h, _⟩
  ·exact Maps.atKey_put_same hm (O.isKey hx') _ z
  ·exact absurd rfl h
 ·have hne : K.kl x' ≠ K.kl x := fun e => he (O.inj hx' hx e)
  obtain ⟨k1, k2⟩ := hD x' hx'
  rw [Maps.has_put_other hne]
  refine ⟨k1.trans ⟨fun ⟨y, hy⟩ => ⟨y, .inr ⟨he, hy⟩⟩, fun ⟨y, hy⟩ => ?_⟩, fun y' hy' z => ?_⟩
  ·rcases hy with ⟨h, _⟩ | ⟨_, h⟩
   ·exact absurd h he
   ·exact ⟨y, h⟩
  ·rw [Maps.atKey_put_other hne]
   rcases hy' with ⟨h, _⟩ | ⟨_, h⟩
   ·exact absurd h he
   ·exact k2 y' h z
/-- 'm[k] = v' in two steps: the entry, then its value. -/
theorem MapIs.entry (O : KdOk K) (h : MapIs K w b n M) {x : Pr} (hx : K.ok x) (y : Pr) (hn : n < 1000000) :
  ∃ (v0 : Value) (st : Nat) (w1 w2 : World), (Instr.mapEntry K.tm (.map (some b)) (K.enc x)).run Tryz.prog w = .ok (.tuple #[v0, goInt st]) w1 ∧
   (Instr.entryStore K.tm (.map (some b)) (goInt st) (K.val y)).run Tryz.prog w1 = .ok () w2 ∧ MapIs K w2 b (n + 1) (fun x' y' => (x' = x ∧ y' = y) ∨ (x' ≠ x ∧ M x' y')) ∧ w.mapTurned w1 b ∧ w.mapTurned w2 b := by
 obtain ⟨D, hown, hD⟩ := h
 have hown0 := hown
 obtain ⟨es, clock, hb, F, hs, hDe⟩ := hown
 obtain ⟨v0, st, es1, clock1, hE, _, hS⟩ := WideElems.entry_then_store (w := w) O.law O.und O.zero hb F (O.key x hx)
 obtain ⟨es', clock', h1, h2⟩ := hS (ChangeMaps.setBlock w b (.map es1 clock1)) (K.val y) (ChangeMaps.heap_setBlock_same hb _)
 obtain ⟨w', hrun, k1, k2⟩ := hown0.store O.keyed O.und (show n < maxLen by unfold maxLen; omega) (O.key x hx) (val := K.val y) (d := .held (K.val y)) (ps := []) rfl
 rw [h2] at hrun
 have hw' : ChangeMaps.setBlock w b (.map es' clock') = w' := by injection hrun
 have hw2 : ChangeMaps.setBlock (ChangeMaps.setBlock w b (.map es1 clock1)) b (.map es' clock') = w' := by rw [← hw']; simp [ChangeMaps.setBlock]
 refine ⟨v0, st, _, _, hE, h1, ?_, ⟨es, clock, es1, clock1, hb, rfl⟩, ?_⟩
 ·rw [hw2]
  exact ⟨_, k1, hD.put O hown0.isMap hx y⟩
 ·rw [hw2]; exact k2
theorem turned_out {w w' : World} {b : Nat} (h : w.mapTurned w' b) : Out (fun k => k = b) w w' :=
 ⟨h.grown.os, h.grown.tape, h.grown.output, h.grown.size, fun k hk hn => h.grown.block k hk (by simpa using hn)⟩
theorem turned_size {w w' : World} {b : Nat} (h : w.mapTurned w' b) : w'.heap.size = w.heap.size := by
 obtain ⟨es, clock, es', clock', hb, rfl⟩ := h
 simp [ChangeMaps.setBlock]
/-- The keys that a range has met. -/
def Coll (K : Kd) (D : DataW Value) (left : Lit → Bool) (xs : List Pr) : Prop := xs.Nodup ∧ ∀ x, x ∈ xs ↔ K.ok x ∧ Maps.has D (K.kl x) = true ∧ left (K.kl x) = false
theorem Coll.start (K : Kd) (D : DataW Value) : Coll K D (Maps.has D) [] := ⟨List.nodup_nil, fun x => by
 constructor
 ·intro h; cases h
 ·rintro ⟨_, h1, h2⟩; rw [h1] at h2; cases h2⟩
theorem Coll.step (O : KdOk K) {D : DataW Value} {left : Lit → Bool} {xs : List Pr} (h : Coll K D left xs) {x : Pr} (hx : K.ok x) (hl : left (K.kl x) = true) {y : DataW Value} (hat : ∀ zd, D.atKey (K.kl x) zd = y) :
  Coll K D (fun z => left z && !z.sameKey (K.kl x)) (xs ++ [x]) := by
 obtain ⟨h1, h2⟩ := h
 have hno : x ∉ xs := fun hm => by have := ((h2 x).1 hm).2.2; rw [hl] at this; cases this
 refine ⟨?_, fun x' => ?_⟩
 ·rw [List.nodup_append]
  refine ⟨h1, by simp, fun a ha c hc => ?_⟩
  have : c = x := by simpa using hc
  subst this
  rintro rfl
  exact hno ha
 ·rw [List.mem_append, h2, List.mem_singleton]
  by_cases he : x' = x
  ·subst he
   simp only [hx, Maps.has_true_of_atKey hat, WideAt.sameKey_self (O.isKey hx)]
   simp
  ·constructor
   ·rintro (⟨k1, k2, k3⟩ | h)
    ·exact ⟨k1, k2, by simp [k3]⟩
    ·exact absurd h he
   ·rintro ⟨k1, k2, k3⟩
    refine .inl ⟨k1, k2, ?_⟩
    have hne : K.kl x' ≠ K.kl x := fun e => he (O.inj k1 hx e)
    simp only [Maps.sameKey_ne hne] at k3
    simpa using k3
theorem Coll.all {D : DataW Value} {left : Lit → Bool} {xs : List Pr} (h : Coll K D left xs) (hD : DIs K D M) (hl : ∀ kl, left kl = false) (x : Pr) : x ∈ xs ↔ K.ok x ∧ ∃ y, M x y := by
 rw [h.2]
 constructor
 ·rintro ⟨h1, h2, _⟩; exact ⟨h1, ((hD x h1).1).1 h2⟩
 ·rintro ⟨h1, h2⟩; exact ⟨h1, ((hD x h1).1).2 h2, hl _⟩
end
def kN : Kd := ⟨175, 180, 185, .u32, .u64, .i64, .i64⟩
def kS : Kd := ⟨176, 185, 180, .i64, .i64, .u32, .u64⟩
theorem okN : KdOk kN := ⟨Tryz.lawN, Tryz.underlying175, Tryz.zeroValue185, fun x hx => keyN_mk hx.1 hx.2, fun v l h => keyN_inv h⟩
theorem okS : KdOk kS := ⟨Tryz.lawS, Tryz.underlying176, Tryz.zeroValue180, fun x hx => keyS_mk hx.1 hx.2, fun v l h => keyS_inv h⟩
theorem fitsN_ok {x : Pr} (h : FitsN x) : kN.ok x := by
 obtain ⟨⟨h1, h2⟩, h3, h4⟩ := h
 exact ⟨WalkArith.wf_u32 (by omega), WalkArith.wf_u64 (by omega)⟩
theorem fitsS_ok {x : Pr} (h : FitsS x) : kS.ok x := by
 obtain ⟨⟨h1, h2⟩, h3, h4⟩ := h
 exact ⟨WalkArith.wf_i64 (by omega), WalkArith.wf_i64 (by omega)⟩
end
section
def prL (q0 q1 : IntKind) (x : Pr) : List Value := [.int q0 x.1, .int q1 x.2]
/-- The program's map behind p: its blocks, and all places in it. -/
structure LmP (w : World) (p b1 b2 : Nat) (S : List Pl) (c : Nat) : Prop where
 hp : Blk w p [.map (some b1), .map (some b2)] 178
 m1 : MapIs kN w b1 c (fun n s => (n, s) ∈ S)
 m2 : MapIs kS w b2 c (fun s n => (n, s) ∈ S)
 ne : b1 ≠ b2
 good : Good S
section
variable {w w' : World} {p b1 b2 : Nat} {S : List Pl} {c : Nat}
theorem LmP.same (h : LmP w p b1 b2 S c) (hs : ∀ k, k = p ∨ k = b1 ∨ k = b2 → w'.heap[k]? = w.heap[k]?) : LmP w' p b1 b2 S c :=
 ⟨by unfold Blk; rw [hs p (.inl rfl)]; exact h.hp, h.m1.same (hs b1 (.inr (.inl rfl))), h.m2.same (hs b2 (.inr (.inr rfl))), h.ne, h.good⟩
theorem LmP.lt (h : LmP w p b1 b2 S c) : ∀ k, k = p ∨ k = b1 ∨ k = b2 → k < w.heap.size := by
 rintro k (rfl | rfl | rfl)
 ·exact h.hp.lt
 ·exact h.m1.lt
 ·exact h.m2.lt
theorem LmP.below (h : LmP w p b1 b2 S c) (hb : Below w.heap.size w w') : LmP w' p b1 b2 S c := h.same (fun k hk => hb.block k (h.lt k hk))
theorem LmP.out {O : Nat → Prop} (h : LmP w p b1 b2 S c) (ho : Out O w w') (hn : ∀ k, k = p ∨ k = b1 ∨ k = b2 → ¬ O k) : LmP w' p b1 b2 S c := h.same (fun k hk => ho.block k (h.lt k hk) (hn k hk))
theorem LmP.alloc (h : LmP w p b1 b2 S c) (o : Obj) : LmP (w.alloc o) p b1 b2 S c := h.below ((Below.refl _ _).alloc (Nat.le_refl _) o)
theorem LmP.drew (h : LmP w p b1 b2 S c) : LmP w.drew p b1 b2 S c := h.same (fun _ _ => rfl)
theorem LmP.mono {c' : Nat} (h : LmP w p b1 b2 S c) (hc : c ≤ c') : LmP w p b1 b2 S c' := ⟨h.hp, h.m1.mono hc, h.m2.mono hc, h.ne, h.good⟩
theorem LmP.lookN (h : LmP w p b1 b2 S c) {n : Pr} (hn : FitsN n) : (Instr.lookup 175 (.map (some b1)) (.agg #[.int .u32 n.1, .int .u64 n.2]) true).run Tryz.prog w = .ok (.tuple #[.agg #[.int .i64 ((getS S n).getD (0, 0)).1, .int .i64 ((getS S n).getD (0, 0)).2], .bool (getS S n).isSome]) w :=
 h.m1.look okN (fitsN_ok hn) (getS S n) (fun y => getS_some h.good)
theorem LmP.lookN1 (h : LmP w p b1 b2 S c) {n : Pr} (hn : FitsN n) : (Instr.lookup 175 (.map (some b1)) (.agg #[.int .u32 n.1, .int .u64 n.2]) false).run Tryz.prog w = .ok (.agg #[.int .i64 ((getS S n).getD (0, 0)).1, .int .i64 ((getS S n).getD (0, 0)).2]) w :=
 h.m1.look1 okN (fitsN_ok hn) (getS S n) (fun y => getS_some h.good)
theorem LmP.lookS (h : LmP w p b1 b2 S c) {s : Pr} (hs : FitsS s) : (Instr.lookup 176 (.map (some b2)) (.agg #[.int .i64 s.1, .int .i64 s.2]) true).run Tryz.prog w = .ok (.tuple #[.agg #[.int .u32 ((atS S s).getD (0, 0)).1, .int .u64 ((atS S s).getD (0, 0)).2], .bool (atS S s).isSome]) w :=
 h.m2.look okS (fitsS_ok hs) (atS S s) (fun y => atS_some h.good)
end
theorem mNew_of (w : World) : Calls Tryz.prog 65 #[] w fun e w' => ∃ p b1 b2, e = .returned (.pointer (some ⟨p, 0, none⟩)) ∧ LmP w' p b1 b2 [] 0 ∧ Below w.heap.size w w' ∧ w.heap.size ≤ p ∧ w.heap.size ≤ b1 ∧ w.heap.size ≤ b2 := by
 have hmm := @run_makeMap Tryz.prog
 go_enter Tryz.func65, Tryz.ntmps65
 go_wp2
 go_ret
 have e1 := (MapIs.made kN w).congr (M' := fun n s => (n, s) ∈ ([] : List Pl)) (fun x y _ => by simp)
 have e2 := (MapIs.made kS (w.alloc (.map #[] 0))).congr (M' := fun s n => (n, s) ∈ ([] : List Pl)) (fun x y _ => by simp)
 have s1 : (w.alloc (.map #[] 0)).heap.size = w.heap.size + 1 := by simp
 rw [s1] at e2
 refine ⟨w.heap.size + 2, w.heap.size, w.heap.size + 1, rfl, ⟨?_, ?_, ?_, by omega, good_nil⟩, ?_, by omega, by omega, by omega⟩
 ·exact Blk.new' (by simp) rfl
 ·exact (e1.same (Below.heap_alloc _ _ _ e1.lt)).same (Below.heap_alloc _ _ _ (Nat.lt_of_lt_of_le e1.lt (by simp)))
 ·exact e2.same (Below.heap_alloc _ _ _ e2.lt)
 ·exact (((Below.refl _ _).alloc (Nat.le_refl _) _).alloc (by simp) _).alloc (by simp; omega) _
theorem mPlace_of (n s : Pr) (w : World) : Calls Tryz.prog 98 #[.agg #[.int .u32 n.1, .int .u64 n.2], .agg #[.int .i64 s.1, .int .i64 s.2]] w fun e w' => e = .returned (.agg #[.int .u32 n.1, .int .u64 n.2, .int .i64 s.1, .int .i64 s.2]) ∧ Below w.heap.size w w' := by
 have hB : Blk (((w.alloc (.cells #[.int .u32 n.1, .int .u64 n.2] 180)).alloc (.cells #[.int .i64 s.1, .int .i64 s.2] 185)).alloc (.cells #[.int .u32 n.1, .int .u64 n.2, .int .i64 s.1, .int .i64 s.2] 131)) (w.heap.size + 1 + 1) (plL (n, s)) 131 := Blk.new' (by simp) rfl
 have hb : Below w.heap.size w (((w.alloc (.cells #[.int .u32 n.1, .int .u64 n.2] 180)).alloc (.cells #[.int .i64 s.1, .int .i64 s.2] 185)).alloc (.cells #[.int .u32 n.1, .int .u64 n.2, .int .i64 s.1, .int .i64 s.2] 131)) := (((Below.refl _ _).alloc (Nat.le_refl _) _).alloc (by simp) _).alloc (by simp; omega) _
 have H : Hid (Blk _ _ _ _ ∧ Below _ _ _) := ⟨hB, hb⟩
 clear hB hb
 go_enter Tryz.func98, Tryz.ntmps98
 go_wp2
 exact bodyPost_ret (results_cell_one (p := 4) (ty := 131) rfl _ _ _ _ _ _ rfl H.out.1 Tryz.underlying131 rfl Tryz.info_place) rfl ⟨rfl, H.out.2⟩
theorem mGet_of (p b1 b2 : Nat) (S : List Pl) (c : Nat) (n : Pr) (w : World) (h : LmP w p b1 b2 S c) (hn : FitsN n) :
  Calls Tryz.prog 56 #[.pointer (some ⟨p, 0, none⟩), .int .u32 n.1, .int .u64 n.2] w fun e w' => e = .returned (.tuple #[.agg #[.int .i64 ((getS S n).getD (0, 0)).1, .int .i64 ((getS S n).getD (0, 0)).2], .bool (getS S n).isSome]) ∧ Below w.heap.size w w' := by
 have c0 := (h.alloc (.cells #[.int .i64 0, .int .i64 0] 55)).hp.cell 0
 have hl := (h.alloc (.cells #[.int .i64 0, .int .i64 0] 55)).lookN hn
 simp only [List.getElem?_cons_zero] at c0
 clear h hn
 generalize (getS S n).isSome = o at hl ⊢
 generalize (getS S n).getD (0, 0) = s at hl ⊢
 have hB : Blk ((w.alloc (.cells #[.int .i64 s.1, .int .i64 s.2] 55)).alloc (.cells #[.int .i64 s.1, .int .i64 s.2] 185)) w.heap.size (prL .i64 .i64 s) 55 := (Blk.new' rfl rfl).alloc _
 have hb : Below w.heap.size w ((w.alloc (.cells #[.int .i64 s.1, .int .i64 s.2] 55)).alloc (.cells #[.int .i64 s.1, .int .i64 s.2] 185)) := (((Below.refl _ _).alloc (Nat.le_refl _) _).alloc (by simp) _)
 have H : Hid (Blk _ _ _ _ ∧ Below _ _ _) := ⟨hB, hb⟩
 clear hB hb
 go_enter Tryz.func56, Tryz.ntmps56
 go_wp2
 exact bodyPost_ret (results_cell_two (p := 6) (u := 7) (ty := 55) rfl _ _ _ _ _ _ rfl H.out.1 Tryz.underlying55 rfl Tryz.info_addr _ rfl) rfl ⟨rfl, H.out.2⟩
end
end Go.Proofs.YtcdnjeiamihhbabGreat
