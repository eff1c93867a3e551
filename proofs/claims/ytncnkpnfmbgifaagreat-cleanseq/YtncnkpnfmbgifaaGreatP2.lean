/- Texts of this seat, one behind the other: Blk, ZMem, ZSmall, ZKept. -/
import Derived.WalkKit
import Derived.Below
import Derived.WalkSmall
import Derived.Deep.MidRow
import Derived.Deep.Upon
import Derived.Laws.CopyOwn
import Derived.Test.YtncnkpnfmbgifaaGreatP1
import Derived.ArgAppend
import Derived.Laws.OwnMore
import Derived.RangeFuncBox
import Derived.Deep.OwnRows
/- A block of memory that is known whole: 'Blk w g L t': block g holds the cells L, none of them frozen. What a store, a new block, a draw and a call that leaves it alone do to it. -/
namespace Go.Proofs.YtncnkpnfmbgifaaGreat
open Go.RowKit
set_option linter.unusedVariables false
set_option maxRecDepth 4000

def Blk (w : World) (g : Nat) (L : List Value) (t : TypeId) : Prop := w.heap[g]? = some (.cells L.toArray t (0, 0))

theorem Blk.lt {w : World} {g : Nat} {L : List Value} {t : TypeId} (h : Blk w g L t) : g < w.heap.size := (Array.getElem?_eq_some_iff.1 h).1
theorem Blk.cell {w : World} {g : Nat} {L : List Value} {t : TypeId} (h : Blk w g L t) (i : Nat) : w.cell? ⟨g, i, none⟩ = L[i]? := by
 rw [cell_of_row w g i L.toArray t (0, 0) h]; simp
theorem Blk.frozen {w : World} {g : Nat} {L : List Value} {t : TypeId} (h : Blk w g L t) (i : Nat) : w.frozen? ⟨g, i, none⟩ = false := by
 have h' : w.heap[g]? = some (.cells L.toArray t (0, 0)) := h
 simp [World.frozen?, h']
theorem Blk.drew {w : World} {g : Nat} {L : List Value} {t : TypeId} (h : Blk w g L t) : Blk w.drew g L t := h
theorem Blk.drewN {w : World} {g : Nat} {L : List Value} {t : TypeId} (h : Blk w g L t) (n : Nat) : Blk (w.drewN n) g L t := h
theorem Blk.alloc {w : World} {g : Nat} {L : List Value} {t : TypeId} (h : Blk w g L t) (o : Obj) : Blk (w.alloc o) g L t := by
 unfold Blk; rw [Below.heap_alloc w o g h.lt]; exact h
theorem Blk.new (w : World) (L : List Value) (t : TypeId) : Blk (w.alloc (.cells L.toArray t)) w.heap.size L t := by
 show (w.heap.push _)[w.heap.size]? = _
 simp
theorem Blk.new' {w : World} {C : Array Value} {L : List Value} {t : TypeId} {k : Nat} (hk : w.heap.size = k) (hC : C = L.toArray) : Blk (w.alloc (.cells C t)) k L t := by
 subst hk; subst hC; exact Blk.new w L t
theorem Blk.set {w : World} {g : Nat} {L : List Value} {t : TypeId} (h : Blk w g L t) (i : Nat) (v : Value) : Blk (w.setCell ⟨g, i, none⟩ v) g (L.set i v) t := by
 have h' : w.heap[g]? = some (.cells L.toArray t (0, 0)) := h
 unfold Blk
 simp [World.setCell, Array.getElem?_modify, h']
theorem Blk.set_other {w : World} {g : Nat} {L : List Value} {t : TypeId} (h : Blk w g L t) {a : Addr} (hne : g ≠ a.block) (v : Value) : Blk (w.setCell a v) g L t := by
 unfold Blk; rw [Below.heap_setCell w a v g hne]; exact h
theorem Blk.below {w w' : World} {g B : Nat} {L : List Value} {t : TypeId} (h : Blk w g L t) (hb : Below B w w') (hg : g < B) : Blk w' g L t := by
 unfold Blk; rw [hb.block g hg]; exact h
theorem kept_set {w : World} {a c : Addr} {v u : Value} (h : w.cell? c = some u) (hne : c.block ≠ a.block) : (w.setCell a v).cell? c = some u := by
 rw [World.cell?_setCell_other _ _ _ _ (by intro e; subst e; exact hne rfl)]; exact h

theorem results_cell_one {P : Program} {fn : Func} {p : Tmp} {ty : TypeId} (h : fn.results = #[.cell p ty]) (tmps : Array Value) (w : World) (g : Nat) (L : List Value) (t : TypeId) (d : TypeDesc) (hp : tmps.getD p undef = .pointer (some ⟨g, 0, none⟩))
  (hb : Blk w g L t) (hu : P.underlying ty = some d) (hd : d.isRow = true) (hi : (P.info? ty).map (·.size) = some L.length) : (results fn tmps).run P w = .ok (.agg L.toArray) w := by
 exact results_cell_row h tmps w g t L.toArray (0, 0) d hp hb hu (by cases d <;> first | rfl | cases hd) (by simpa using hi)

end Go.Proofs.YtncnkpnfmbgifaaGreat

/- Memory of a device: what lies outside of a set of blocks; blocks of bytes, rows of them, zones. -/
namespace Go.Proofs.YtncnkpnfmbgifaaGreat
open Go.RowKit
set_option linter.unusedVariables false
set_option maxRecDepth 4000

structure Out (O : Nat → Prop) (w w' : World) : Prop where
 os : w'.os = w.os
 tape : w'.tape = w.tape
 output : w'.output = w.output
 size : w.heap.size ≤ w'.heap.size
 block : ∀ k, k < w.heap.size → ¬ O k → w'.heap[k]? = w.heap[k]?
def Non : Nat → Prop := fun _ => False
def Ext (O : Nat → Prop) (w w' : World) : Nat → Prop := fun k => O k ∨ (w.heap.size ≤ k ∧ k < w'.heap.size)

theorem Out.refl (O : Nat → Prop) (w : World) : Out O w w := ⟨rfl, rfl, rfl, Nat.le_refl _, fun _ _ _ => rfl⟩
theorem Out.trans {O O' : Nat → Prop} {a b c : World} (h : Out O a b) (k : Out O' b c) (hO : ∀ j, O' j → O j ∨ a.heap.size ≤ j) : Out O a c :=
 ⟨k.os.trans h.os, k.tape.trans h.tape, k.output.trans h.output, Nat.le_trans h.size k.size, fun i hi hn => by
  rw [k.block i (Nat.lt_of_lt_of_le hi h.size) (fun e => by rcases hO i e with e | e; exact hn e; omega)]; exact h.block i hi hn⟩
theorem Out.mono {O O' : Nat → Prop} {a b : World} (h : Out O a b) (hO : ∀ j, O j → j < a.heap.size → O' j) : Out O' a b :=
 ⟨h.os, h.tape, h.output, h.size, fun i hi hn => h.block i hi (fun e => hn (hO i e hi))⟩
theorem Out.below {O : Nat → Prop} {w w' : World} {n : Nat} (h : Out O w w') (hn : n ≤ w.heap.size) (hO : ∀ j, O j → n ≤ j) : Below n w w' :=
 ⟨h.os, h.tape, h.output, h.size, fun k hk => h.block k (by omega) (fun e => by have := hO k e; omega)⟩
theorem below_out {w w' : World} (O : Nat → Prop) (h : Below w.heap.size w w') : Out O w w' := ⟨h.os, h.tape, h.output, h.size, fun k hk _ => h.block k hk⟩
theorem below_out' {w w' : World} {n : Nat} {O : Nat → Prop} (h : Below n w w') (hO : ∀ j, n ≤ j → j < w.heap.size → O j) : Out O w w' :=
 ⟨h.os, h.tape, h.output, h.size, fun k hk hn => h.block k (by rcases Nat.lt_or_ge k n with h | h; exact h; exact (hn (hO k h hk)).elim)⟩
theorem Out.alloc {O : Nat → Prop} {a w : World} (h : Out O a w) (o : Obj) : Out O a (w.alloc o) :=
 h.trans (O' := Non) ⟨rfl, rfl, rfl, by simp, fun k hk _ => Below.heap_alloc _ _ _ hk⟩ (fun _ e => e.elim)
theorem Out.setCell {O : Nat → Prop} {a w : World} (h : Out O a w) {p : Addr} (hp : O p.block ∨ a.heap.size ≤ p.block) (u : Value) : Out O a (w.setCell p u) :=
 h.trans (O' := fun k => k = p.block) ⟨rfl, rfl, rfl, by simp [World.setCell], fun k _ hn => Below.heap_setCell _ _ _ _ hn⟩ (fun j e => by subst e; exact hp)
theorem Out.drew {O : Nat → Prop} {a w : World} (h : Out O a w) : Out O a w.drew := ⟨h.os, h.tape, h.output, h.size, h.block⟩
theorem Out.grown {O : Nat → Prop} {a w w' : World} {row : Option Nat} (h : Out O a w) (hg : w.grownBy w' row) (hr : ∀ k, row = some k → O k ∨ a.heap.size ≤ k) : Out O a w' :=
 h.trans (O' := fun k => row = some k) ⟨hg.os, hg.tape, hg.output, hg.size, fun k hk hn => hg.block k hk (fun e => hn e.symm)⟩ hr
theorem Out.under {O : Nat → Prop} {a w w' : World} (h : Out O a w) (hb : Below w.heap.size w w') : Out O a w' :=
 h.trans (below_out Non hb) (fun _ e => e.elim)
theorem Out.blk {O : Nat → Prop} {w w' : World} {g : Nat} {L : List Value} {t : TypeId} (h : Out O w w') (hb : Blk w g L t) (hg : ¬ O g) : Blk w' g L t := by
 unfold Blk; rw [h.block g hb.lt hg]; exact hb
theorem Out.own {O : Nat → Prop} {w w' : World} {B : Nat} {e : TypeId} {s n : Nat} {v : Value} {xs : List Value} (h : Out O w w') (hr : w.ownsRow B e s v n xs) (hg : ∀ g, v.ownBlock = some g → ¬ O g) : w'.ownsRow B e s v n xs := by
 refine ⟨hr.1, ?_⟩
 rcases hr.2 with h2 | ⟨g, cap, cur, hv, hB, hh, r⟩
 ·exact .inl h2
 ·exact .inr ⟨g, cap, cur, hv, hB, by rw [h.block g (Array.getElem?_eq_some_iff.1 hh).1 (hg g (by rw [hv]; rfl))]; exact hh, r⟩
theorem Out.cell {O : Nat → Prop} {w w' : World} (h : Out O w w') {p : Addr} {v : Value} (hc : w.cell? p = some v) (hg : ¬ O p.block) : w'.cell? p = some v := by
 rw [World.cell?_of_block (w := w) (h.block p.block (old_block hc) hg)]; exact hc
theorem own_base {w : World} {B B' : Nat} {e : TypeId} {s n : Nat} {v : Value} {xs : List Value} (h : w.ownsRow B e s v n xs) (hb : ∀ g, v.ownBlock = some g → B' ≤ g) : w.ownsRow B' e s v n xs := by
 refine ⟨h.1, ?_⟩
 rcases h.2 with h2 | ⟨g, cap, cur, hv, hB, r⟩
 ·exact .inl h2
 ·exact .inr ⟨g, cap, cur, hv, hb g (by rw [hv]; rfl), r⟩
theorem own_zero {w : World} {B : Nat} {e : TypeId} {s n : Nat} {v : Value} {xs : List Value} (h : w.ownsRow B e s v n xs) : w.ownsRow 0 e s v n xs := own_base h (fun _ _ => Nat.zero_le _)
theorem own_at_block {w : World} {B : Nat} {e : TypeId} {s n : Nat} {v : Value} {xs : List Value} (h : w.ownsRow B e s v n xs) {g : Nat} (hg : v.ownBlock = some g) : ∃ cur, w.heap[g]? = some (.cells cur e (0, 0)) := by
 rcases h.2 with ⟨hv, _⟩ | ⟨g', cap, cur, hv, _, hh, _⟩
 ·rw [hv] at hg; cases hg
 ·rw [hv] at hg; cases hg; exact ⟨cur, hh⟩
theorem own_slice {w : World} {B : Nat} {e : TypeId} {s n : Nat} {v : Value} {xs : List Value} (h : w.ownsRow B e s v n xs) : ∃ a c, v = .slice a n c := by
 rcases h.2 with ⟨hv, hn⟩ | ⟨g, cap, cur, hv, _⟩
 ·exact ⟨none, 0, by rw [hv, hn]⟩
 ·exact ⟨_, _, hv⟩

theorem run_app {e t ty : TypeId} {size bytes : Nat} {z : Value} (ht : Tryz.prog.underlying t = some (.slice e)) (hinfo : (Tryz.prog.info? e).map (fun i => (i.zero, i.size, i.bytes)) = some (some z, size, bytes)) (hz : z.cells.size = size) (hs0 : 0 < size) (hsz : bytes ≤ 72)
  {w : World} {v : Value} {n : Nat} {xs : List Value} (hown : w.ownsRow 0 e size v n xs)
  (a : Addr) (m c : Nat) (news : List Value) (hl : news.length = m * size) (hnews : ∀ j u, news[j]? = some u → w.cell? (a.add j) = some u) (h1 : ∀ u ∈ news, u.oneCell' = true) (hle : n + m ≤ 1000000) :
  ∃ v' w', (Builtin.append_ #[t, t] ty #[v, .slice (some a) m c]).run Tryz.prog w = .ok v' w' ∧ w'.ownsRow 0 e size v' (n + m) (xs ++ news) ∧ w.grownBy w' v.ownBlock ∧ (v'.ownBlock = v.ownBlock ∨ ∀ g, v'.ownBlock = some g → w.heap.size ≤ g) := by
 obtain ⟨i0, hi, hz0, hz1, hz2⟩ := info_parts hinfo
 have hle' := Nat.mul_le_mul hle hsz
 have hA := run_append_own (P := Tryz.prog) w 0 t ty e i0 z size bytes ht hi hz0 hz1 hz2 hz hs0 v n xs hown a m c news hl hnews h1 (by unfold maxLen; omega) (by omega) (Nat.zero_le _)
 rcases hown.2 with ⟨hv, hn⟩ | ⟨g, cap, cur, hv, hB, hh, hnc, hcm, hcs, htk⟩
 ·have hnew := run_append_own (P := Tryz.prog) w w.heap.size t ty e i0 z size bytes ht hi hz0 hz1 hz2 hz hs0 v n xs ⟨hown.1, .inl ⟨hv, hn⟩⟩ a m c news hl hnews h1 (by unfold maxLen; omega) (by omega) (Nat.le_refl _)
  obtain ⟨v', w', h2, h3, h4, _⟩ := hnew
  exact ⟨v', w', h2, own_zero h3, h4, .inr fun g hg => (h3.lt g hg).1⟩
 ·by_cases hroom : n + m ≤ cap
  ·obtain ⟨v', w', h2, h3, h4, _⟩ := hA
   refine ⟨v', w', h2, h3, h4, .inl ?_⟩
   have hsp : ∀ j, j < news.length → (0 + n * i0.size + j) < cur.size := by
    intro j hj
    rw [hcs, hz1]
    have : (n + m) * size ≤ cap * size := Nat.mul_le_mul_right _ hroom
    rw [Nat.add_mul] at this
    rw [hl] at hj
    omega
   have hr := run_append_room_cells (P := Tryz.prog) w t ty e i0 ht hi g 0 n cap a m c news (by rw [hz1]; exact hl) hnews h1 hroom (fun j hj => by
    rw [cell_of_row w g _ cur e (0, 0) hh]
    simp; have := hsp j hj; omega) (fun j hj => frozen_of_row w g _ cur e hh)
   rw [hv] at h2
   rw [hr] at h2
   cases h2
   rw [hv]; rfl
  ·have hg := run_append_arg_grows (P := Tryz.prog) w t ty e i0 z size bytes ht hi hz0 hz1 hz2 hz hs0 ⟨g, 0, none⟩ n cap xs hown.1 (hown.cells (by rw [hv]; rfl)) a m c news hl hnews (by omega) (by unfold maxLen; omega) (by omega)
   obtain ⟨v', w', h2, h3, h4⟩ := hg
   refine ⟨v', w', by rw [hv]; exact h2, own_zero h3, ⟨h4.os, h4.tape, h4.output, h4.size, fun k hk _ => h4.block k hk (by simp)⟩, .inr fun g hg => (h3.lt g hg).1⟩

abbrev Zn := List (List Int) × Int
theorem Tryz.zero_bytes : (Tryz.prog.info? 43).map (fun i => (i.zero, i.size, i.bytes)) = some (some (.slice none 0 0), 1, 24) := by kernel_rfl
theorem Tryz.zero_zone : (Tryz.prog.info? 120).map (fun i => (i.zero, i.size, i.bytes)) = some (some (.agg #[.slice none 0 0, .int .i64 0]), 2, 32) := by kernel_rfl

def BkAt (O : Nat → Prop) (W : World) (h : Value) (D : List Int) : Prop :=
 W.ownsRow 0 5 1 h D.length (u8s D) ∧ (∀ c, h.ownBlock = some c → O c) ∧ (∀ z ∈ D, Fits8 z) ∧ D.length ≤ 1000000
def BsAt (O : Nat → Prop) (W : World) (vs : List Value) (bs : List (List Int)) : Prop :=
 vs.length = bs.length ∧ ∀ (i : Nat) (h : Value) (D : List Int), vs[i]? = some h → bs[i]? = some D → BkAt O W h D
def RowAt (O : Nat → Prop) (W : World) (v : Value) (bs : List (List Int)) : Prop :=
 ∃ vs, W.ownsRow 0 43 1 v bs.length vs ∧ (∀ r, v.ownBlock = some r → O r) ∧ BsAt O W vs bs ∧ bs.length ≤ 100000
def zcells : List Value → List Zn → List Value
 | v :: vs, z :: zs => v :: .int .i64 z.2 :: zcells vs zs
 | _, _ => []
def Apart (vs : List Value) : Prop := ∀ (i j : Nat) (u v : Value) (r : Nat), vs[i]? = some u → vs[j]? = some v → u.ownBlock = some r → v.ownBlock = some r → i = j
def ZsAt (O : Nat → Prop) (W : World) (v : Value) (zs : List Zn) : Prop :=
 ∃ vs, W.ownsRow 0 120 2 v zs.length (zcells vs zs) ∧ (∀ r, v.ownBlock = some r → O r) ∧ vs.length = zs.length ∧ (∀ (i : Nat) (u : Value) (z : Zn), vs[i]? = some u → zs[i]? = some z → RowAt O W u z.1) ∧ Apart vs ∧ zs.length ≤ 1000

theorem BkAt.out {O S : Nat → Prop} {W W' : World} {h : Value} {D : List Int} (hb : BkAt O W h D) (ho : Out S W W') (hS : ∀ c cur, O c → W.heap[c]? = some (.cells cur 5 (0, 0)) → ¬ S c) : BkAt O W' h D :=
 ⟨ho.own hb.1 (fun g hg => by obtain ⟨cur, hc⟩ := own_at_block hb.1 hg; exact hS g cur (hb.2.1 g hg) hc), hb.2⟩
theorem BsAt.out {O S : Nat → Prop} {W W' : World} {vs : List Value} {bs : List (List Int)} (hb : BsAt O W vs bs) (ho : Out S W W') (hS : ∀ c cur, O c → W.heap[c]? = some (.cells cur 5 (0, 0)) → ¬ S c) : BsAt O W' vs bs :=
 ⟨hb.1, fun i h D h1 h2 => (hb.2 i h D h1 h2).out ho hS⟩
theorem RowAt.out {O S : Nat → Prop} {W W' : World} {v : Value} {bs : List (List Int)} (hb : RowAt O W v bs) (ho : Out S W W') (h1 : ∀ r, v.ownBlock = some r → ¬ S r) (hS : ∀ c cur, O c → W.heap[c]? = some (.cells cur 5 (0, 0)) → ¬ S c) : RowAt O W' v bs := by
 obtain ⟨vs, a, b, c, d⟩ := hb
 exact ⟨vs, ho.own a h1, b, c.out ho hS, d⟩
theorem BkAt.mono {O O' : Nat → Prop} {W : World} {h : Value} {D : List Int} (hb : BkAt O W h D) (hO : ∀ c, O c → c < W.heap.size → O' c) : BkAt O' W h D :=
 ⟨hb.1, fun c hc => hO c (hb.2.1 c hc) (hb.1.lt c hc).2, hb.2.2⟩
theorem BsAt.mono {O O' : Nat → Prop} {W : World} {vs : List Value} {bs : List (List Int)} (hb : BsAt O W vs bs) (hO : ∀ c, O c → c < W.heap.size → O' c) : BsAt O' W vs bs := ⟨hb.1, fun i h D h1 h2 => (hb.2 i h D h1 h2).mono hO⟩
theorem RowAt.mono {O O' : Nat → Prop} {W : World} {v : Value} {bs : List (List Int)} (hb : RowAt O W v bs) (hO : ∀ c, O c → c < W.heap.size → O' c) : RowAt O' W v bs := by
 obtain ⟨vs, a, b, c, d⟩ := hb
 exact ⟨vs, a, fun r hr => hO r (b r hr) (a.lt r hr).2, c.mono hO, d⟩
theorem ZsAt.out {O S : Nat → Prop} {W W' : World} {v : Value} {zs : List Zn} (hb : ZsAt O W v zs) (ho : Out S W W') (hS : ∀ c, O c → ¬ S c) : ZsAt O W' v zs := by
 obtain ⟨vs, a, b, c, d, e, f⟩ := hb
 refine ⟨vs, ho.own a (fun g hg => hS g (b g hg)), b, c, fun i u z h1 h2 => ?_, e, f⟩
 have := d i u z h1 h2
 exact this.out ho (fun r hr => by obtain ⟨_, _, hb, _⟩ := this; exact hS r (hb r hr)) (fun c _ hc _ => hS c hc)
theorem BsAt.nil (O : Nat → Prop) (W : World) : BsAt O W [] [] := ⟨rfl, fun i h D h1 _ => by simp at h1⟩
theorem BsAt.snoc {O : Nat → Prop} {W : World} {vs : List Value} {bs : List (List Int)} (h : BsAt O W vs bs) {u : Value} {D : List Int} (hd : BkAt O W u D) : BsAt O W (vs ++ [u]) (bs ++ [D]) := by
 refine ⟨by simp [h.1], fun i x E h1 h2 => ?_⟩
 by_cases hlt : i < bs.length
 ·rw [List.getElem?_append_left (by rw [h.1]; exact hlt)] at h1
  rw [List.getElem?_append_left hlt] at h2
  exact h.2 i x E h1 h2
 ·have hi : i = bs.length := by
   have := (List.getElem?_eq_some_iff.1 h2).1
   simp at this
   omega
  subst hi
  simp at h2
  rw [← h.1] at h1
  simp at h1
  subst h1; subst h2
  exact hd
theorem RowAt.nil (O : Nat → Prop) (W : World) : RowAt O W (.slice none 0 0) [] := ⟨[], World.ownsRow_nil W 0 43 1, (fun r h => by cases h), BsAt.nil O W, by simp⟩
theorem RowAt.slice {O : Nat → Prop} {W : World} {v : Value} {bs : List (List Int)} (h : RowAt O W v bs) : ∃ a c, v = .slice a bs.length c := by
 obtain ⟨vs, a, _⟩ := h; exact own_slice a

theorem zcells_length : ∀ (vs : List Value) (zs : List Zn), vs.length = zs.length → (zcells vs zs).length = zs.length * 2
 | [], [], _ => rfl
 | [], _ :: _, h => by simp at h
 | _ :: _, [], h => by simp at h
 | v :: vs, z :: zs, h => by
  have := zcells_length vs zs (by simpa using h)
  simp [zcells, this]; omega
theorem zcells_get : ∀ (vs : List Value) (zs : List Zn) (i : Nat) (v : Value) (z : Zn), vs[i]? = some v → zs[i]? = some z → (zcells vs zs)[2 * i]? = some v ∧ (zcells vs zs)[2 * i + 1]? = some (.int .i64 z.2)
 | [], _, i, v, z, h, _ => by simp at h
 | _ :: _, [], i, v, z, _, h => by simp at h
 | u :: vs, y :: zs, 0, v, z, h1, h2 => by simp at h1 h2; subst h1; subst h2; exact ⟨rfl, rfl⟩
 | u :: vs, y :: zs, i + 1, v, z, h1, h2 => by
  have := zcells_get vs zs i v z (by simpa using h1) (by simpa using h2)
  have e : 2 * (i + 1) = 2 * i + 1 + 1 := by omega
  rw [e]
  simpa [zcells] using this
theorem zcells_setV : ∀ (vs : List Value) (zs : List Zn) (i : Nat) (v : Value), vs.length = zs.length → (zcells vs zs).set (2 * i) v = zcells (vs.set i v) zs
 | [], [], i, v, _ => by simp [zcells]
 | [], _ :: _, _, _, h => by simp at h
 | _ :: _, [], _, _, h => by simp at h
 | u :: vs, y :: zs, 0, v, h => by simp [zcells]
 | u :: vs, y :: zs, i + 1, v, h => by
  have := zcells_setV vs zs i v (by simpa using h)
  have e : 2 * (i + 1) = 2 * i + 1 + 1 := by omega
  rw [e]
  simp [zcells, this]
theorem zcells_setD : ∀ (vs : List Value) (zs : List Zn) (i : Nat) (z : Zn), vs.length = zs.length → (zcells vs zs).set (2 * i + 1) (.int .i64 z.2) = zcells vs (zs.set i z)
 | [], [], i, z, _ => by simp [zcells]
 | [], _ :: _, _, _, h => by simp at h
 | _ :: _, [], _, _, h => by simp at h
 | u :: vs, y :: zs, 0, z, h => by simp [zcells]
 | u :: vs, y :: zs, i + 1, z, h => by
  have := zcells_setD vs zs i z (by simpa using h)
  have e : 2 * (i + 1) + 1 = 2 * i + 1 + 1 + 1 := by omega
  rw [e]
  simp [zcells, this]
theorem zcells_snoc : ∀ (vs : List Value) (zs : List Zn) (v : Value) (z : Zn), vs.length = zs.length → zcells vs zs ++ [v, .int .i64 z.2] = zcells (vs ++ [v]) (zs ++ [z])
 | [], [], v, z, _ => rfl
 | [], _ :: _, _, _, h => by simp at h
 | _ :: _, [], _, _, h => by simp at h
 | u :: vs, y :: zs, v, z, h => by
  have := zcells_snoc vs zs v z (by simpa using h)
  simp [zcells, ← this]
theorem zcells_same (vs : List Value) (zs zs' : List Zn) (h : zs.map (·.2) = zs'.map (·.2)) : zcells vs zs = zcells vs zs' := by
 induction vs generalizing zs zs' with
 | nil => cases zs <;> cases zs' <;> rfl
 | cons v vs ih =>
  cases zs with
  | nil => cases zs' with
   | nil => rfl
   | cons => simp at h
  | cons y zs => cases zs' with
   | nil => simp at h
   | cons y' zs' =>
    simp at h
    simp [zcells, h.1, ih zs zs' h.2]

theorem BkAt.bin {O : Nat → Prop} {W : World} {a : Option Addr} {n c : Nat} {D : List Int} (h : BkAt O W (.slice a n c) D) : BIn W a n D ∧ (a = none → n = 0 ∧ c = 0) ∧ n = D.length := by
 have hn : n = D.length := by obtain ⟨_, _, e⟩ := own_slice h.1; cases e; rfl
 have h1 := h.1
 rw [← hn] at h1
 exact ⟨own_bin h1 (by have := h.2.2.2; unfold maxLen; omega) h.2.2.1, own_nil h1, hn⟩
end Go.Proofs.YtncnkpnfmbgifaaGreat

/- What one call of within, torn, whole, kept, cut and of the functions that whole and kept tell does. -/
namespace Go.Proofs.YtncnkpnfmbgifaaGreat
open Go.RowKit
set_option linter.unusedVariables false
set_option maxRecDepth 4000

theorem slice_front {t : TypeId} (ht : Tryz.prog.underlying t = some (.slice (Tryz.prog.elem t))) (hz : ∀ w : World, (sizeOf (Tryz.prog.elem t)).run Tryz.prog w = .ok 1 w) (a : Option Addr) (n c k : Nat) (hk : k ≤ c) (w : World) :
  (Instr.slice t (.slice a n c) none (some (.int .i64 (k : Int))) none).run Tryz.prog w = .ok (.slice a k c) w := by
 rw [run_slice_h (P := Tryz.prog) w t a n c ht .i64 k (by omega) (by omega), hz w]
 simp only [Result.andThen, Int.toNat_natCast]
 unfold sliced
 cases a with
 | none => simp
 | some x => simp [Addr.add]
theorem slice_back {t : TypeId} (ht : Tryz.prog.underlying t = some (.slice (Tryz.prog.elem t))) (hz : ∀ w : World, (sizeOf (Tryz.prog.elem t)).run Tryz.prog w = .ok 1 w) (a : Option Addr) (n c k : Nat) (hk : k ≤ n) (w : World) :
  (Instr.slice t (.slice a n c) (some (.int .i64 (k : Int))) none none).run Tryz.prog w = .ok (.slice (if c = k then a else a.map (·.add k)) (n - k) (c - k)) w := by
 rw [run_slice_l (P := Tryz.prog) w t a n c ht .i64 k (by omega) (by omega), hz w]
 simp only [Result.andThen, Int.toNat_natCast]
 unfold sliced
 rw [Nat.mul_one]
theorem Tryz.one_bytes : ∀ w : World, (sizeOf (Tryz.prog.elem 43)).run Tryz.prog w = .ok 1 w := fun _ => by kernel_rfl
theorem Tryz.byte1 : (Tryz.prog.info? 5).map (·.size) = some 1 := by kernel_rfl

theorem within_of (n lo hi : Int) (w : World) :
  Calls Tryz.prog 112 #[.int .i64 n, .int .i64 lo, .int .i64 hi] w fun e w' => e = .returned (.bool (decide (lo ≤ n) && decide (n ≤ hi))) ∧ w' = w := by
 by_cases h1 : lo ≤ n
 ·have e : (decide (lo ≤ n) && decide (n ≤ hi)) = decide (n ≤ hi) := by simp [h1]
  rw [e]
  go_enter Tryz.func112, Tryz.ntmps112
  go_wp2
  go_ret
  exact ⟨by simp, rfl⟩
 ·have e : (decide (lo ≤ n) && decide (n ≤ hi)) = false := by simp [h1]
  rw [e]
  go_enter Tryz.func112, Tryz.ntmps112
  go_wp2
  go_ret
  exact ⟨rfl, rfl⟩

def tornL (D : List Int) (m : Nat) : List Int := D.take m ++ List.replicate (D.length - m) 0
theorem tornL_length {D : List Int} {m : Nat} (h : m ≤ D.length) : (tornL D m).length = D.length := by simp [tornL]; omega
theorem tornL_all (D : List Int) : tornL D D.length = D := by simp [tornL]
theorem tornL_fits {D : List Int} {m : Nat} (h : ∀ z ∈ D, Fits8 z) : ∀ z ∈ tornL D m, Fits8 z := by
 intro z hz
 simp only [tornL, List.mem_append, List.mem_replicate] at hz
 rcases hz with hz | ⟨_, rfl⟩
 ·exact h z (List.mem_of_mem_take hz)
 ·unfold Fits8; omega
theorem made_bytes (n : Nat) (w : World) : Blk (w.alloc (.cells (madeCells #[.int .u8 0] n) 5)) w.heap.size (u8s (List.replicate n 0)) 5 := by
 refine Blk.new' rfl ?_
 apply Array.ext'
 rw [toList_madeCells_one]
 simp [u8s]
theorem blk_own {w : World} {g n : Nat} {L : List Value} {t : TypeId} (B : Nat) (h : Blk w g L t) (hn : L.length = n) (hm : n ≤ maxLen) (hB : B ≤ g) : w.ownsRow B t 1 (.slice (some ⟨g, 0, none⟩) n n) n L :=
 ⟨by omega, .inr ⟨g, n, L.toArray, rfl, hB, h, Nat.le_refl _, hm, by simp [hn], by simp [← hn]⟩⟩

def Torn (w : World) (D : List Int) (m : Nat) (e : Ending) (w' : World) : Prop :=
 ∃ h, e = .returned h ∧ BkAt (fun k => w.heap.size ≤ k) w' h (tornL D m) ∧ Below w.heap.size w w' ∧ (∃ g, h = .slice (some ⟨g, 0, none⟩) D.length D.length ∧ w.heap.size ≤ g)

set_option maxHeartbeats 1000000 in
theorem torn_of (a : Option Addr) (n c m : Nat) (D : List Int) (w : World) (hb : BIn w a n D) (hm : m ≤ n) (hc : n ≤ c) (hn : n ≤ 100000) :
  Calls Tryz.prog 216 #[.slice a n c, .int .i64 m] w (Torn w D m) := by
 obtain ⟨q, hq⟩ : ∃ q, q = w.heap.size := ⟨_, rfl⟩
 have hmk := run_make_row' (P := Tryz.prog) 43 5 (.int .u8 0) 1 Tryz.underlying43 Tryz.zero_u8 rfl .i64 .i64 n (by omega) (by omega)
 have hsf := slice_front Tryz.underlying43 Tryz.one_bytes a n c m (by omega)
 have b0 := made_bytes n w
 rw [← hq] at b0
 have H : Hid (BIn w a n D ∧ m ≤ n ∧ n ≤ 100000 ∧ q = w.heap.size) := ⟨hb, hm, hn, hq⟩
 have H0 : Hid (Blk (w.alloc (.cells (madeCells #[.int .u8 0] n) 5)) q (u8s (List.replicate n 0)) 5 ∧ Below q w (w.alloc (.cells (madeCells #[.int .u8 0] n) 5))) := ⟨b0, (Below.refl _ _).alloc (by rw [hq]; exact Nat.le_refl _) _⟩
 clear hb hm hn hc b0
 go_enter Tryz.func216, Tryz.ntmps216
 go_upto_region 2 with fail
 generalize hW : World.alloc w _ = W at H0 ⊢
 rw [← hq]
 clear hW hmk hq
 have hlen : D.length = n := H.out.1.1
 have hin : BIn W a n D := H.out.1.below (by rw [← H.out.2.2.2]; exact H0.out.2)
 have HI : Hid (BIn W a n D ∧ D.length = n) := ⟨hin, hlen⟩
 clear hin hlen
 have s1 : Hid ((u8s (D.take m)).length = Nat.min m n) := show _ = _ by
  rw [u8s_length, List.length_take, HI.out.2]
 have s2 : Hid (0 < (u8s (D.take m)).length → (some ⟨q, 0, none⟩ : Option Addr) = some ⟨q, 0, none⟩ ∧ ∃ ad, a = some ad ∧ ∀ j v, (u8s (D.take m))[j]? = some v → W.cell? (ad.add j) = some v) := fun hp => ⟨rfl, by
  rw [u8s_length, List.length_take, HI.out.2] at hp
  obtain ⟨b, off, ha, hc⟩ := HI.out.1.2.2.2.resolve_left (by omega)
  refine ⟨_, ha, fun j v hj => ?_⟩
  have hj' : j < m ∧ j < n := by
   have := (List.getElem?_eq_some_iff.1 hj).1
   rw [u8s_length, List.length_take, HI.out.2] at this
   omega
  rw [Addr.add_mid, hc j hj'.2, ← hj]
  simp [u8s, List.getD, hj'.1, HI.out.2, hj'.2]⟩
 have s3 : Hid (0 + (u8s (D.take m)).length ≤ (u8s (List.replicate n 0)).length) := show _ ≤ _ by rw [u8s_length, u8s_length, List.length_take, HI.out.2, List.length_replicate]; omega
 go_upto_region 3 with (refine wpList_copy_splice rfl (.tmp 9) (.tmp 12) 43 43 rfl 5 Tryz.underlying43 Tryz.byte1 (some ⟨q, 0, none⟩) a n n m c rfl rfl q 0 (u8s (List.replicate n 0)) 5 H0.out.1 (u8s (D.take m)) s1.out s2.out s3.out (u8s_one _) q W (Below.refl _ _) (Nat.le_refl _) ?_; intro w4 h4 b4)
 have e4 : splice (u8s (List.replicate n 0)) 0 (u8s (D.take m)) = u8s (tornL D m) := by
  have h1 : (u8s (D.take m)).length = m := by rw [u8s_length, List.length_take, HI.out.2]; have := H.out.2.1; omega
  unfold splice
  rw [h1]
  simp [u8s, tornL, HI.out.2]
 have f4 : Blk w4 q (u8s (tornL D m)) 5 := by
  have := h4.out
  rw [e4] at this
  exact this
 have HF : Hid (Blk w4 q (u8s (tornL D m)) 5 ∧ Below q w w4) := ⟨f4, H0.out.2.trans b4⟩
 clear h4 b4 e4 f4
 go_wp2
 go_ret
 have hl := tornL_length (D := D) (m := m) (by rw [HI.out.2]; exact H.out.2.1)
 refine ⟨_, rfl, ⟨?_, ?_, tornL_fits H.out.1.2.2.1, by rw [hl, HI.out.2]; have := H.out.2.2.1; omega⟩, by rw [← H.out.2.2.2]; exact HF.out.2, q, (by rw [HI.out.2]; rfl), by rw [H.out.2.2.2]; exact Nat.le_refl _⟩
 ·rw [hl, HI.out.2]
  exact blk_own 0 HF.out.1 (by rw [u8s_length, hl, HI.out.2]) (by have := H.out.2.2.1; unfold maxLen; omega) (Nat.zero_le _)
 ·intro k hk
  cases hk
  rw [H.out.2.2.2]; exact Nat.le_refl _

theorem whole1_of (s : Int) (g : Nat) (a : Option Addr) (n c : Nat) (w : World) (hc : w.cell? ⟨g, 0, none⟩ = some (.int .i64 s)) :
  Calls Tryz.prog 217 #[.slice a n c, .pointer (some ⟨g, 0, none⟩)] w fun e w' => e = .returned (.int .i64 (if (n : Int) = s then s else 0)) ∧ w' = w := by
 by_cases h : (n : Int) = s
 ·rw [if_pos h]
  subst h
  go_enter Tryz.func217, Tryz.ntmps217
  go_wp2
  go_ret
  exact ⟨rfl, rfl⟩
 ·rw [if_neg h]
  have hb : ((n : Int) != s) = true := by simp [h]
  go_enter Tryz.func217, Tryz.ntmps217
  go_wp2
  go_ret
  exact ⟨rfl, rfl⟩
theorem whole_of (s : Int) (w : World) :
  Calls Tryz.prog 193 #[.int .i64 s] w fun e w' => e = .returned (.func (.func 217) #[] #[.pointer (some ⟨w.heap.size, 0, none⟩)]) ∧ w' = w.alloc (.cells #[.int .i64 s] 3) := by
 go_enter Tryz.func193, Tryz.ntmps193
 go_wp2
 go_ret
 exact ⟨rfl, rfl⟩
theorem cut_of (a : Option Addr) (n c f : Nat) (lb : Array Value) (w : World) :
  Calls Tryz.prog 192 #[.slice a n c, .func (.func f) #[] lb] w fun e w' => e = .returned (.func (.func 215) #[] #[.pointer (some ⟨w.heap.size, 0, none⟩), .pointer (some ⟨w.heap.size + 1, 0, none⟩)]) ∧ w' = (w.alloc (.cells #[.slice a n c] 42)).alloc (.cells #[.func (.func f) #[] lb] 199) := by
 go_enter Tryz.func192, Tryz.ntmps192
 go_wp2
 go_ret
 exact ⟨by simp, rfl⟩
end Go.Proofs.YtncnkpnfmbgifaaGreat

/- What one call of the function that kept tells does. -/
namespace Go.Proofs.YtncnkpnfmbgifaaGreat
open Go.RowKit
set_option linter.unusedVariables false
set_option maxRecDepth 4000

theorem out_cell (w : World) (g i : Nat) (v : Value) : Out (fun j => j = g) w (w.setCell ⟨g, i, none⟩ v) := (Out.refl (fun j => j = g) w).setCell (p := ⟨g, i, none⟩) (.inl rfl) v
end Go.Proofs.YtncnkpnfmbgifaaGreat
