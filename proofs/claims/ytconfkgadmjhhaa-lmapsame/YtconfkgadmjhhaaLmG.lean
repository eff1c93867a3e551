/- Maps of the statement's own, as functions. -/
import Derived.Test.YtconfkgadmjhhaaLmZ
import Derived.Test.YtconfkgadmjhhaaLmV
namespace Go.Proofs.Ytconfkgadmjhhaa
open Go.RowKit
set_option linter.unusedVariables false
set_option maxRecDepth 4000

theorem Try.wideA : (match Try.prog.underlying 32 with | some (.array _ _) | some (.struct _) => true | _ => false) = true := by rw [Try.underlying32]
theorem Try.lawA : WideMaps.KeyLaw Try.prog 32 := deep_law_laid Try.laidO (m := 2) (by omega) (of_decide_eq_true (by kernel_rfl)) (by kernel_rfl) Try.wideA
theorem Try.keyTA : Try.prog.keyType 32 = true := by kernel_rfl
theorem Try.cellsA : Try.prog.cellsOf 32 = 2 := by kernel_rfl
theorem litsA_eq (d : Nat) (a b : Value) : Try.prog.keyLits (d + 2) 32 [a, b] = (Try.prog.keyLits (d + 1) 3 [a]).bind fun la => (Try.prog.keyLits (d + 1) 3 [b]).bind fun lb => some (la ++ lb) := by
  conv => lhs; unfold Program.keyLits
  rw [Try.underlying32]
  cases h1 : Try.prog.keyLits (d + 1) 3 [a] <;> cases h2 : Try.prog.keyLits (d + 1) 3 [b] <;> simp [Try.cellsA, Try.cellsI, h1, h2]
theorem litsA (d : Nat) (a b : Value) (l : List Lit) (h : Try.prog.keyLits (d + 2) 32 [a, b] = some l) : ∃ x y, a = .int .i64 x ∧ b = .int .i64 y ∧ (Lit.int .i64 x).wf = true ∧ (Lit.int .i64 y).wf = true ∧ l = [.int .i64 x, .int .i64 y] := by
  rw [litsA_eq] at h
  obtain ⟨la, h1, h⟩ := Option.bind_eq_some_iff.1 h
  obtain ⟨lb, h2, h⟩ := Option.bind_eq_some_iff.1 h
  obtain ⟨x, rfl, hx, rfl⟩ := lits_int Try.underlying3 h1
  obtain ⟨y, rfl, hy, rfl⟩ := lits_int Try.underlying3 h2
  cases h
  exact ⟨x, y, rfl, rfl, hx, hy, rfl⟩
theorem litsA_mk (d : Nat) (x y : Int) (h1 : (Lit.int .i64 x).wf = true) (h2 : (Lit.int .i64 y).wf = true) : Try.prog.keyLits (d + 2) 32 [.int .i64 x, .int .i64 y] = some [.int .i64 x, .int .i64 y] := by
  simp [Program.keyLits, Try.underlying32, Try.underlying3, Try.cellsA, Try.cellsI, h1, h2]
theorem keyA_mk {x : Pr} (h1 : (Lit.int .i64 x.1).wf = true) (h2 : (Lit.int .i64 x.2).wf = true) : keyOf Try.prog 32 (encP .i64 .i64 x) = some (klP .i64 .i64 x) := by
  unfold keyOf encP klP
  simp [Try.underlying32, Try.keyTA, Value.formed, Try.cellsA, Value.cells, litsA_mk _ _ _ h1 h2]
theorem keyA_inv {v : Value} {l : Lit} (h : keyOf Try.prog 32 v = some l) : ∃ x : Pr, v = encP .i64 .i64 x ∧ ((Lit.int .i64 x.1).wf = true ∧ (Lit.int .i64 x.2).wf = true) ∧ l = klP .i64 .i64 x := by
  unfold keyOf at h
  simp only [Try.underlying32, Try.keyTA, Bool.true_and] at h
  split at h
  · rename_i hf
    cases v <;> simp [Value.formed, Try.underlying32, Try.cellsA] at hf
    rename_i cs
    obtain ⟨L, rfl⟩ : ∃ L : List Value, cs = L.toArray := ⟨cs.toList, by simp⟩
    match L, hf with
    | [a, b], _ =>
      obtain ⟨ls, h1, h2⟩ := Option.map_eq_some_iff.1 h
      rw [Try.tsz] at h1
      obtain ⟨x, y, rfl, rfl, hx, hy, rfl⟩ := litsA _ a b ls h1
      exact ⟨(x, y), rfl, ⟨hx, hy⟩, h2.symm⟩
  · cases h

/-- A kind of map whose elements are numbers. -/
structure Fd (κ : Type) where
  tm : TypeId
  tk : TypeId
  te : TypeId
  q : IntKind
  key : κ → Value
  kl : κ → Lit
  ok : κ → Prop
structure FdOk {κ : Type} (K : Fd κ) : Prop where
  law : Maps.Keyed Try.prog K.tk
  und : Try.prog.underlying K.tm = some (.map K.tk K.te)
  ue : Try.prog.underlying K.te = some (.int K.q)
  zero : ∀ w, (zeroValue K.te).run Try.prog w = .ok (.int K.q 0) w
  keyed : ∀ x, K.ok x → keyOf Try.prog K.tk (K.key x) = some (K.kl x)
  inj : ∀ x y, K.ok x → K.ok y → K.kl x = K.kl y → x = y
def FMap {κ : Type} (K : Fd κ) (w : World) (b n : Nat) (f : κ → Int) : Prop :=
  ∃ D : DataW Value, w.ownsMap Try.prog K.tk (plainElem Try.prog K.te) b n D ∧ ∀ x, K.ok x → D.atKey (K.kl x) (.lit (.int K.q 0)) = .lit (.int K.q (f x))
section
variable {κ : Type} {K : Fd κ} {w w' : World} {b n : Nat} {f : κ → Int}
theorem FMap.same (h : FMap K w b n f) (hs : w'.heap[b]? = w.heap[b]?) : FMap K w' b n f := by obtain ⟨D, h1, h2⟩ := h; exact ⟨D, owns_same h1 hs, h2⟩
theorem FMap.lt (h : FMap K w b n f) : b < w.heap.size := by obtain ⟨D, h1, _⟩ := h; exact h1.lt
theorem FMap.below (h : FMap K w b n f) (hb : Below w.heap.size w w') : FMap K w' b n f := h.same (hb.block b h.lt)
theorem FMap.drew (h : FMap K w b n f) : FMap K w.drew b n f := h.same rfl
theorem FMap.out {O : Nat → Prop} (h : FMap K w b n f) (ho : Out O w w') (hn : ¬ O b) : FMap K w' b n f := h.same (ho.block b h.lt hn)
theorem FMap.no_blk {g : Nat} {L : List Value} {t : TypeId} (h : FMap K w b n f) (hb : Blk w g L t) : g ≠ b := by
  rintro rfl
  obtain ⟨D, ⟨es, clock, hb', _⟩, _⟩ := h
  unfold Blk at hb
  rw [hb'] at hb
  cases hb
theorem FMap.no_cells {g : Nat} {cur : Array Value} {e : TypeId} {fr : Nat × Nat} (h : FMap K w b n f) (hb : w.heap[g]? = some (.cells cur e fr)) : g ≠ b := by
  rintro rfl
  obtain ⟨D, ⟨es, clock, hb', _⟩, _⟩ := h
  rw [hb'] at hb
  cases hb
theorem FMap.made (K : Fd κ) (w : World) : FMap K (w.alloc (.map #[] 0)) w.heap.size 0 (fun _ => 0) := ⟨.map [], World.ownsMap_made w _ _ _, fun _ _ => rfl⟩
theorem FMap.congr {f' : κ → Int} (h : FMap K w b n f) (he : ∀ x, K.ok x → f x = f' x) : FMap K w b n f' := by obtain ⟨D, h1, h2⟩ := h; exact ⟨D, h1, fun x hx => by rw [h2 x hx, he x hx]⟩
theorem FMap.look (O : FdOk K) (h : FMap K w b n f) {x : κ} (hx : K.ok x) : (Instr.lookup K.tm (.map (some b)) (K.key x) false).run Try.prog w = .ok (.int K.q (f x)) w := by
  obtain ⟨D, h1, h2⟩ := h
  obtain ⟨c, hrun, hat, _⟩ := h1.lookup_int O.law O.und O.ue (O.zero w) (O.keyed x hx)
  rw [h2 x hx] at hat
  injection hat with hat
  injection hat with _ hat
  rw [hrun, hat]
theorem FMap.put (O : FdOk K) (h : FMap K w b n f) (hn : n < 100000) {x : κ} (hx : K.ok x) {v : Int} (hv : (Lit.int K.q v).wf = true) :
    ∃ w', (Instr.mapUpdate K.tm (.map (some b)) (K.key x) (.int K.q v)).run Try.prog w = .ok () w' ∧ (∀ f' : κ → Int, f' x = v → (∀ y, K.ok y → y ≠ x → f' y = f y) → FMap K w' b (n + 1) f') ∧ Out (fun k => k = b) w w' := by
  obtain ⟨D, h1, h2⟩ := h
  obtain ⟨w', hrun, r1, r2⟩ := h1.update O.law O.und (show n < maxLen by unfold maxLen; omega) (O.keyed x hx) (val := .int K.q v) (d := .lit (.int K.q v)) (ps := []) (plainElem_int O.ue hv)
  have hkl : WideAt.IsKeyLit (K.kl x) := O.law.key (O.keyed x hx)
  refine ⟨w', hrun, fun f' e1 e2 => ⟨_, r1, fun y hy => ?_⟩, ⟨r2.os, r2.tape, r2.output, r2.size, fun k hk hne => r2.block k hk (by simpa using hne)⟩⟩
  by_cases he : y = x
  · rw [he, e1]; exact Maps.atKey_put_same h1.isMap hkl _ _
  · have hne : K.kl y ≠ K.kl x := fun e => he (O.inj y x hy hx e)
    rw [Maps.atKey_put_other hne, e2 y hy he]
    exact h2 y hy
end
def fZ0 : Fd Int := ⟨47, 3, 3, .i64, fun z => .int .i64 z, fun z => .int .i64 z, F64⟩
def fC0 : Fd Int := ⟨48, 29, 30, .u64, fun z => .int .u32 z, fun z => .int .u32 z, Fits32⟩
def fA0 : Fd Pr := ⟨49, 32, 3, .i64, fun s => encP .i64 .i64 s, fun s => klP .i64 .i64 s, FitsS⟩
theorem okZ0 : FdOk fZ0 := ⟨Maps.int_keyed Try.underlying3, Try.underlying47, Try.underlying3, Try.zeroValue3, fun x hx => Maps.keyOf_int_mk Try.underlying3 (WalkArith.wf_i64 (by have h : F64 x := hx; unfold F64 at h; omega)), fun x y _ _ e => by injection e⟩
theorem okC0 : FdOk fC0 := ⟨Maps.int_keyed Try.underlying29, Try.underlying48, Try.underlying30, Try.zeroValue30, fun x hx => Maps.keyOf_int_mk Try.underlying29 (WalkArith.wf_u32 (by have h : Fits32 x := hx; unfold Fits32 at h; omega)), fun x y _ _ e => by injection e⟩
theorem okA0 : FdOk fA0 := ⟨Maps.Keyed.of_law Try.lawA, Try.underlying49, Try.underlying3, Try.zeroValue3, fun x hx => keyA_mk (fitsS_ok hx).1 (fitsS_ok hx).2, fun x y hx hy e => encP_inj (Try.lawA.inj (keyA_mk (fitsS_ok hx).1 (fitsS_ok hx).2) ((keyA_mk (fitsS_ok hy).1 (fitsS_ok hy).2).trans (congrArg some e.symm)))⟩
/-- A map of the statement's own that is written leaves both maps as they are. -/
theorem Both.other {w : World} {p b1 b2 r : Nat} {S : List Pl} {c : Nat} {wr wr' : World} {bz : Nat} (h : Both w p b1 b2 r S c wr) (hc : ∀ g cur e fr, wr.heap[g]? = some (.cells cur e fr) → g ≠ bz) (h1 : b1 ≠ bz) (h2 : b2 ≠ bz) (hl : w.heap.size ≤ bz) (ho : Out (fun k => k = bz) wr wr') : Both w p b1 b2 r S c wr' := by
  refine ⟨h.lp.out ho ?_, h.ld.out ho (fun g cur e fr hg => hc g cur e fr hg), h.bel.trans (ho.below h.bel.size (by rintro j rfl; exact hl)), h.hp⟩
  rintro k (rfl | rfl | rfl)
  · exact hc _ _ _ _ h.lp.hp
  · exact h1
  · exact h2
/-- Which zones were named; which of them are still to come. -/
def inZ (l : List Opn) (z : Int) : Bool := l.any (fun o => o.2.2.1 == z)
theorem inZ_step {l : List Opn} {k : Nat} {o : Opn} (h : l[k]? = some o) (z : Int) : inZ (l.take (k + 1)) z = (inZ (l.take k) z || o.2.2.1 == z) := by
  have hk : k < l.length := (List.getElem?_eq_some_iff.1 h).1
  have e : l.take (k + 1) = l.take k ++ [o] := by rw [List.take_succ_eq_append_getElem hk]; congr 2; exact (List.getElem?_eq_some_iff.1 h).2
  unfold inZ
  rw [e, List.any_append]
  simp
theorem mem_goS : ∀ (l : List Opn) (S : List Pl) (q : Pl), Good S → OpsF l → q ∈ l.foldl doS S → q ∈ S ∨ ∃ o ∈ l, o.2 = q
  | [], S, q, _, _, h => .inl h
  | o :: r, S, q, hg, hf, h => by
    rcases mem_goS r (doS S o) q (hg.does (hf o (by simp))) (fun x hx => hf x (by simp [hx])) h with h1 | ⟨o', h1, h2⟩
    · unfold doS at h1
      split at h1
      · exact .inl (mem_dropS.1 h1).1
      · rcases (mem_putS hg).1 h1 with rfl | ⟨h3, _⟩
        · exact .inr ⟨o, by simp, rfl⟩
        · exact .inl h3
    · exact .inr ⟨o', by simp [h1], h2⟩
theorem goS_zones {l : List Opn} (hf : OpsF l) {q : Pl} (h : q ∈ goS l) : inZ l q.2.1 = true := by
  rcases mem_goS l [] q good_nil hf h with h1 | ⟨o, h1, h2⟩
  · simp at h1
  · unfold inZ
    rw [List.any_eq_true]
    exact ⟨o, h1, by rw [h2]; simp⟩
/-- How many blocks are in the zones that were named so far. -/
def nZ (S : List Pl) (l : List Opn) (k : Nat) : Nat := (S.filter (fun q => inZ (l.take k) q.2.1)).length
theorem nZ_le (S : List Pl) (l : List Opn) (k : Nat) : nZ S l k ≤ S.length := List.length_filter_le _ _
theorem nZ_all {S : List Pl} {l : List Opn} (h : ∀ q ∈ S, inZ l q.2.1 = true) {k : Nat} (hk : l.length ≤ k) : nZ S l k = S.length := by
  unfold nZ
  rw [List.take_of_length_le hk, List.filter_eq_self.2 h]
theorem nZ_old {S : List Pl} {l : List Opn} {k : Nat} {o : Opn} (h : l[k]? = some o) (ho : inZ (l.take k) o.2.2.1 = true) : nZ S l (k + 1) = nZ S l k := by
  unfold nZ
  congr 1
  apply List.filter_congr
  intro q _
  rw [inZ_step h]
  by_cases e : o.2.2.1 = q.2.1
  · rw [← e, ho]; rfl
  · have : (o.2.2.1 == q.2.1) = false := by simpa using e
    rw [this, Bool.or_false]
theorem filter_or {α : Type} (f g : α → Bool) (hd : ∀ x, f x = true → g x = false) : ∀ l : List α, (l.filter (fun x => f x || g x)).length = (l.filter f).length + (l.filter g).length
  | [] => rfl
  | x :: r => by
    have ih := filter_or f g hd r
    cases hf : f x <;> cases hg : g x
    · simp [hf, hg, ih]
    · simp [hf, hg, ih]; omega
    · simp [hf, hg, ih]; omega
    · rw [hd x hf] at hg; cases hg
theorem nZ_new {S : List Pl} {l : List Opn} {k : Nat} {o : Opn} (h : l[k]? = some o) (ho : inZ (l.take k) o.2.2.1 = false) : nZ S l (k + 1) = nZ S l k + (S.filter (fun q => q.2.1 == o.2.2.1)).length := by
  unfold nZ
  rw [← filter_or]
  · congr 1
    apply List.filter_congr
    intro q _
    rw [inZ_step h]
    rw [Bool.beq_comm (a := o.2.2.1)]
  · intro q hq
    by_cases e : q.2.1 = o.2.2.1
    · rw [e, ho] at hq; cases hq
    · simpa using e
end Go.Proofs.Ytconfkgadmjhhaa
