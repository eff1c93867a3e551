/- Maps from names (32 bits) to numbers (64 bits): as a rising list; as a function. -/
import Derived.Test.YtkhldjpghjmgfaaLgMath
import Derived.Test.YtkhldjpghjmgfaaZOut
import Derived.Maps.OwnSet
import Derived.Maps.RangeWalk
import Derived.WalkArith
namespace Go.Proofs.Ytkhldjpghjmgfaa
open Go.RowKit
set_option linter.unusedVariables false
set_option maxRecDepth 4000

theorem Try.keyW : Maps.Keyed Try.prog 33 := Maps.int_keyed Try.underlying33
def klW (x : Int) : Lit := .int .u32 x
theorem wfW {x : Int} (h : FitsW x) : (Lit.int .u32 x).wf = true := WalkArith.wf_u32 (by have := h; unfold FitsW at this; omega)
theorem wfQ {x : Int} (h : FitsQ x) : (Lit.int .u64 x).wf = true := WalkArith.wf_u64 (by have := h; unfold FitsQ at this; omega)
theorem keyW_mk {x : Int} (h : FitsW x) : keyOf Try.prog 33 (.int .u32 x) = some (klW x) := Maps.keyOf_int_mk Try.underlying33 (wfW h)
theorem klW_inj {x y : Int} (h : klW x = klW y) : x = y := by unfold klW at h; injection h
theorem owns_same {w w' : World} {b n : Nat} {k : TypeId} {R : Value → Option (DataW Value × List MemPlace)} {D : DataW Value} (h : w.ownsMap Try.prog k R b n D) (hs : w'.heap[b]? = w.heap[b]?) : w'.ownsMap Try.prog k R b n D := by
  obtain ⟨es, clock, hb, F, hn, hD⟩ := h
  exact ⟨es, clock, hs.trans hb, F, hn, hD⟩
def dQ (v : Int) : DataW Value := .lit (.int .u64 v)
/-- Block b is a map of at most n entries: just these. -/
def QMap (w : World) (b n : Nat) (Q : Qs) : Prop :=
  ∃ D : DataW Value, w.ownsMap Try.prog 33 (plainElem Try.prog 34) b n D ∧ Maps.size D = Q.length ∧
    ∀ x, FitsW x → Maps.has D (klW x) = (getQ Q x).isSome ∧ ∀ z, D.atKey (klW x) z = match getQ Q x with | some v => dQ v | none => z
/-- Block b is a map of at most n entries: what it tells. -/
def UMap (w : World) (b n : Nat) (u : Int → Int) : Prop :=
  ∃ D : DataW Value, w.ownsMap Try.prog 33 (plainElem Try.prog 34) b n D ∧ ∀ x, FitsW x → D.atKey (klW x) (dQ 0) = dQ (u x)
section
variable {w w' : World} {b n : Nat} {Q : Qs} {u : Int → Int}
theorem QMap.same (h : QMap w b n Q) (hs : w'.heap[b]? = w.heap[b]?) : QMap w' b n Q := by obtain ⟨D, h1, h2⟩ := h; exact ⟨D, owns_same h1 hs, h2⟩
theorem UMap.same (h : UMap w b n u) (hs : w'.heap[b]? = w.heap[b]?) : UMap w' b n u := by obtain ⟨D, h1, h2⟩ := h; exact ⟨D, owns_same h1 hs, h2⟩
theorem QMap.lt (h : QMap w b n Q) : b < w.heap.size := by obtain ⟨D, h1, _⟩ := h; exact h1.lt
theorem UMap.lt (h : UMap w b n u) : b < w.heap.size := by obtain ⟨D, h1, _⟩ := h; exact h1.lt
theorem QMap.out {O : Nat → Prop} (h : QMap w b n Q) (ho : Out O w w') (hn : ¬ O b) : QMap w' b n Q := h.same (ho.block b h.lt hn)
theorem UMap.out {O : Nat → Prop} (h : UMap w b n u) (ho : Out O w w') (hn : ¬ O b) : UMap w' b n u := h.same (ho.block b h.lt hn)
theorem QMap.mono {n' : Nat} (h : QMap w b n Q) (hn : n ≤ n') : QMap w b n' Q := by obtain ⟨D, h1, h2⟩ := h; exact ⟨D, h1.mono hn, h2⟩
theorem UMap.mono {n' : Nat} (h : UMap w b n u) (hn : n ≤ n') : UMap w b n' u := by obtain ⟨D, h1, h2⟩ := h; exact ⟨D, h1.mono hn, h2⟩
theorem map_no_cells {k : TypeId} {R : Value → Option (DataW Value × List MemPlace)} {D : DataW Value} (h : w.ownsMap Try.prog k R b n D) {g : Nat} {cur : Array Value} {e : TypeId} {fr : Nat × Nat} (hb : w.heap[g]? = some (.cells cur e fr)) : g ≠ b := by
  rintro rfl
  obtain ⟨es, clock, hb', _⟩ := h
  rw [hb'] at hb
  cases hb
theorem QMap.no_cells (h : QMap w b n Q) {g : Nat} {cur : Array Value} {e : TypeId} {fr : Nat × Nat} (hb : w.heap[g]? = some (.cells cur e fr)) : g ≠ b := by obtain ⟨D, h1, _⟩ := h; exact map_no_cells h1 hb
theorem UMap.no_cells (h : UMap w b n u) {g : Nat} {cur : Array Value} {e : TypeId} {fr : Nat × Nat} (hb : w.heap[g]? = some (.cells cur e fr)) : g ≠ b := by obtain ⟨D, h1, _⟩ := h; exact map_no_cells h1 hb
theorem QMap.made (w : World) : QMap (w.alloc (.map #[] 0)) w.heap.size 0 [] := ⟨.map [], World.ownsMap_made w _ _ _, rfl, fun _ _ => ⟨rfl, fun _ => rfl⟩⟩
theorem UMap.made (w : World) : UMap (w.alloc (.map #[] 0)) w.heap.size 0 (fun _ => 0) := ⟨.map [], World.ownsMap_made w _ _ _, fun _ _ => rfl⟩
theorem UMap.congr {u' : Int → Int} (h : UMap w b n u) (he : ∀ x, u x = u' x) : UMap w b n u' := by obtain ⟨D, h1, h2⟩ := h; exact ⟨D, h1, fun x hx => by rw [h2 x hx, he x]⟩
theorem QMap.len (h : QMap w b n Q) (ty : TypeId) : (Builtin.len_ #[53] ty #[.map (some b)]).run Try.prog w = .ok (.int .i64 Q.length) w := by
  obtain ⟨D, h1, h2, _⟩ := h
  rw [h1.len Try.underlying53 ty, h2]
theorem QMap.look (h : QMap w b n Q) {x : Int} (hx : FitsW x) : (Instr.lookup 53 (.map (some b)) (.int .u32 x) false).run Try.prog w = .ok (.int .u64 (quoI Q x)) w := by
  obtain ⟨D, h1, _, h2⟩ := h
  obtain ⟨c, hrun, hat, _⟩ := h1.lookup_int Try.keyW Try.underlying53 Try.underlying34 (Try.zeroValue34 w) (keyW_mk hx)
  have e := (h2 x hx).2 (dQ 0)
  have e2 : (match getQ Q x with | some v => dQ v | none => dQ 0) = dQ (quoI Q x) := by unfold quoI; cases getQ Q x <;> rfl
  rw [e2] at e
  have := hat.symm.trans e
  unfold dQ at this
  injection this with this
  injection this with _ this
  rw [hrun, this]
theorem UMap.look (h : UMap w b n u) {x : Int} (hx : FitsW x) : (Instr.lookup 53 (.map (some b)) (.int .u32 x) false).run Try.prog w = .ok (.int .u64 (u x)) w := by
  obtain ⟨D, h1, h2⟩ := h
  obtain ⟨c, hrun, hat, _⟩ := h1.lookup_int Try.keyW Try.underlying53 Try.underlying34 (Try.zeroValue34 w) (keyW_mk hx)
  have := hat.symm.trans (h2 x hx)
  unfold dQ at this
  injection this with this
  injection this with _ this
  rw [hrun, this]
theorem QMap.put (h : QMap w b n Q) (hr : Rise Q) (hn : n < 100000) {x v : Int} (hx : FitsW x) (hv : FitsQ v) :
    ∃ w', (Instr.mapUpdate 53 (.map (some b)) (.int .u32 x) (.int .u64 v)).run Try.prog w = .ok () w' ∧ QMap w' b (n + 1) (putQ Q x v) ∧ Out (fun k => k = b) w w' := by
  obtain ⟨D, h1, hs, h2⟩ := h
  obtain ⟨w', hrun, r1, r2⟩ := h1.update Try.keyW Try.underlying53 (show n < maxLen by unfold maxLen; omega) (keyW_mk hx) (val := .int .u64 v) (d := dQ v) (ps := []) (plainElem_int Try.underlying34 (wfQ hv))
  have hkl : WideAt.IsKeyLit (klW x) := Try.keyW.key (keyW_mk hx)
  refine ⟨w', hrun, ⟨_, r1, ?_, fun y hy => ?_⟩, ⟨r2.os, r2.tape, r2.output, r2.size, fun k hk hne => r2.block k hk (by simpa using hne)⟩⟩
  · rw [Maps.size_put (h1.tidy Try.keyW) , put_length hr, hs, (h2 x hx).1]
  · rw [get_put hr]
    by_cases he : y = x
    · subst he
      rw [if_pos rfl, Maps.has_put_same h1.isMap hkl]
      exact ⟨rfl, fun z => Maps.atKey_put_same h1.isMap hkl _ z⟩
    · have hne : klW y ≠ klW x := fun e => he (klW_inj e)
      rw [if_neg he, Maps.has_put_other hne]
      exact ⟨(h2 y hy).1, fun z => by rw [Maps.atKey_put_other hne]; exact (h2 y hy).2 z⟩
theorem UMap.put (h : UMap w b n u) (hn : n < 100000) {x v : Int} (hx : FitsW x) (hv : FitsQ v) :
    ∃ w', (Instr.mapUpdate 53 (.map (some b)) (.int .u32 x) (.int .u64 v)).run Try.prog w = .ok () w' ∧ UMap w' b (n + 1) (upd u x v) ∧ Out (fun k => k = b) w w' := by
  obtain ⟨D, h1, h2⟩ := h
  obtain ⟨w', hrun, r1, r2⟩ := h1.update Try.keyW Try.underlying53 (show n < maxLen by unfold maxLen; omega) (keyW_mk hx) (val := .int .u64 v) (d := dQ v) (ps := []) (plainElem_int Try.underlying34 (wfQ hv))
  have hkl : WideAt.IsKeyLit (klW x) := Try.keyW.key (keyW_mk hx)
  refine ⟨w', hrun, ⟨_, r1, fun y hy => ?_⟩, ⟨r2.os, r2.tape, r2.output, r2.size, fun k hk hne => r2.block k hk (by simpa using hne)⟩⟩
  by_cases he : y = x
  · subst he; rw [upd_same]; exact Maps.atKey_put_same h1.isMap hkl _ _
  · have hne : klW y ≠ klW x := fun e => he (klW_inj e)
    rw [Maps.atKey_put_other hne, upd_other _ _ he]
    exact h2 y hy
theorem UMap.drop (h : UMap w b n u) {x : Int} (hx : FitsW x) (ty : TypeId) :
    ∃ w', (Builtin.delete_ #[53, 33] ty #[.map (some b), .int .u32 x]).run Try.prog w = .ok (.tuple #[]) w' ∧ UMap w' b n (upd u x 0) ∧ Out (fun k => k = b) w w' := by
  obtain ⟨D, h1, h2⟩ := h
  obtain ⟨w', hrun, r1, r2⟩ := h1.drop Try.keyW Try.underlying53 (keyW_mk hx) ty
  refine ⟨w', hrun, ⟨_, r1, fun y hy => ?_⟩, ⟨r2.grown.os, r2.grown.tape, r2.grown.output, r2.grown.size, fun k hk hn => r2.grown.block k hk (by simpa using hn)⟩⟩
  by_cases he : y = x
  · subst he; rw [upd_same]; exact Maps.atKey_of_not_has (Maps.has_del_same) _
  · have hne : klW y ≠ klW x := fun e => he (klW_inj e)
    rw [Maps.atKey_del_other hne, upd_other _ _ he]
    exact h2 y hy
end
theorem make_qmap (n : Int) (w : World) : (Instr.makeMap 53 (some (.int .i64 n))).run Try.prog w = .ok (.map (some w.heap.size)) (w.alloc (.map #[] 0)) := by
  simp [Instr.makeMap, run_underlying Try.underlying53, asInt, Result.andThen]
  rfl
theorem make_qmap0 (w : World) : (Instr.makeMap 53 none).run Try.prog w = .ok (.map (some w.heap.size)) (w.alloc (.map #[] 0)) := by
  simp [Instr.makeMap]
end Go.Proofs.Ytkhldjpghjmgfaa
