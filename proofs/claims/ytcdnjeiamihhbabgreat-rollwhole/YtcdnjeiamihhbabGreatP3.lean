/- P3 -/
import Derived.ArgAppend
import Derived.Laws.OwnMore
import Derived.RangeFuncBox
import Derived.Deep.OwnRows
import Derived.Test.YtcdnjeiamihhbabGreatP2
set_option linter.unusedVariables false
set_option maxRecDepth 4000
namespace Go.Proofs.YtcdnjeiamihhbabGreat
open Go.RowKit
/-! ### All but the blocks of a set lie as they lay -/
structure Out (O : Nat → Prop) (w w' : World) : Prop where
 os : w'.os = w.os
 tape : w'.tape = w.tape
 output : w'.output = w.output
 size : w.heap.size ≤ w'.heap.size
 block : ∀ k, k < w.heap.size → ¬ O k → w'.heap[k]? = w.heap[k]?
def Non : Nat → Prop := fun _ => False
def Ext (O : Nat → Prop) (w w' : World) : Nat → Prop := fun k => O k ∨ (w.heap.size ≤ k ∧ k < w'.heap.size)
theorem Out.refl (O : Nat → Prop) (w : World) : Out O w w := ⟨rfl, rfl, rfl, Nat.le_refl _, fun _ _ _ => rfl⟩
theorem Out.trans {O O' : Nat → Prop} {a b c : World} (h : Out O a b) (k : Out O' b c) (hO : ∀ j, O' j → O j ∨ a.heap.size ≤ j) : Out O a c :=
 ⟨k.os.trans h.os, k.tape.trans h.tape, k.output.trans h.output, Nat.le_trans h.size k.size, fun i hi hn => by
  rw [k.block i (Nat.lt_of_lt_of_le hi h.size) (fun e => by rcases hO i e with e | e; exact hn e; omega)]; exact h.block i hi hn⟩
theorem Out.mono {O O' : Nat → Prop} {a b : World} (h : Out O a b) (hO : ∀ j, O j → j < a.heap.size → O' j) : Out O' a b :=
 ⟨h.os, h.tape, h.output, h.size, fun i hi hn => h.block i hi (fun e => hn (hO i e hi))⟩
theorem Out.below {O : Nat → Prop} {w w' : World} {n : Nat} (h : Out O w w') (hn : n ≤ w.heap.size) (hO : ∀ j, O j → n ≤ j) : Below n w w' :=
 ⟨h.os, h.tape, h.output, h.size, fun k hk => h.block k (by omega) (fun e => by have := hO k e; omega)⟩
theorem below_out {w w' : World} (O : Nat → Prop) (h : Below w.heap.size w w') : Out O w w' := ⟨h.os, h.tape, h.output, h.size, fun k hk _ => h.block k hk⟩
theorem below_out' {w w' : World} {n : Nat} {O : Nat → Prop} (h : Below n w w') (hO : ∀ j, n ≤ j → j < w.heap.size → O j) : Out O w w' :=
 ⟨h.os, h.tape, h.output, h.size, fun k hk hn => h.block k (by rcases Nat.lt_or_ge k n with h | h; exact h; exact (hn (hO k h hk)).elim)⟩
theorem Out.alloc {O : Nat → Prop} {a w : World} (h : Out O a w) (o : Obj) : Out O a (w.alloc o) :=
 h.trans (O' := Non) ⟨rfl, rfl, rfl, by simp, fun k hk _ => Below.heap_alloc _ _ _ hk⟩ (fun _ e => e.elim)
theorem Out.setCell {O : Nat → Prop} {a w : World} (h : Out O a w) {p : Addr} (hp : O p.block ∨ a.heap.size ≤ p.block) (u : Value) : Out O a (w.setCell p u) :=
 h.trans (O' := fun k => k = p.block) ⟨rfl, rfl, rfl, by simp [World.setCell], fun k _ hn => Below.heap_setCell _ _ _ _ hn⟩ (fun j e => by subst e; exact hp)
theorem Out.drew {O : Nat → Prop} {a w : World} (h : Out O a w) : Out O a w.drew := ⟨h.os, h.tape, h.output, h.size, h.block⟩
theorem Out.grown {O : Nat → Prop} {a w w' : World} {row : Option Nat} (h : Out O a w) (hg : w.grownBy w' row) (hr : ∀ k, row = some k → O k ∨ a.heap.size ≤ k) : Out O a w' :=
 h.trans (O' := fun k => row = some k) ⟨hg.os, hg.tape, hg.output, hg.size, fun k hk hn => hg.block k hk (fun e => hn e.symm)⟩ hr
theorem Out.under {O : Nat → Prop} {a w w' : World} (h : Out O a w) (hb : Below w.heap.size w w') : Out O a w' :=
 h.trans (below_out Non hb) (fun _ e => e.elim)
theorem Out.blk {O : Nat → Prop} {w w' : World} {g : Nat} {L : List Value} {t : TypeId} (h : Out O w w') (hb : Blk w g L t) (hg : ¬ O g) : Blk w' g L t := by
 unfold Blk; rw [h.block g hb.lt hg]; exact hb
theorem Out.own {O : Nat → Prop} {w w' : World} {B : Nat} {e : TypeId} {s n : Nat} {v : Value} {xs : List Value} (h : Out O w w') (hr : w.ownsRow B e s v n xs) (hg : ∀ g, v.ownBlock = some g → ¬ O g) : w'.ownsRow B e s v n xs := by
 refine ⟨hr.1, ?_⟩
 rcases hr.2 with h2 | ⟨g, cap, cur, hv, hB, hh, r⟩
 ·exact .inl h2
 ·exact .inr ⟨g, cap, cur, hv, hB, by rw [h.block g (Array.getElem?_eq_some_iff.1 hh).1 (hg g (by rw [hv]; rfl))]; exact hh, r⟩
theorem Out.cell {O : Nat → Prop} {w w' : World} (h : Out O w w') {p : Addr} {v : Value} (hc : w.cell? p = some v) (hg : ¬ O p.block) : w'.cell? p = some v := by
 rw [World.cell?_of_block (w := w) (h.block p.block (old_block hc) hg)]; exact hc
theorem own_base {w : World} {B B' : Nat} {e : TypeId} {s n : Nat} {v : Value} {xs : List Value} (h : w.ownsRow B e s v n xs) (hb : ∀ g, v.ownBlock = some g → B' ≤ g) : w.ownsRow B' e s v n xs := by
 refine ⟨h.1, ?_⟩
 rcases h.2 with h2 | ⟨g, cap, cur, hv, hB, r⟩
 ·exact .inl h2
 ·exact .inr ⟨g, cap, cur, hv, hb g (by rw [hv]; rfl), r⟩
theorem own_zero {w : World} {B : Nat} {e : TypeId} {s n : Nat} {v : Value} {xs : List Value} (h : w.ownsRow B e s v n xs) : w.ownsRow 0 e s v n xs := own_base h (fun _ _ => Nat.zero_le _)
theorem own_at_block {w : World} {B : Nat} {e : TypeId} {s n : Nat} {v : Value} {xs : List Value} (h : w.ownsRow B e s v n xs) {g : Nat} (hg : v.ownBlock = some g) : ∃ cur, w.heap[g]? = some (.cells cur e (0, 0)) := by
 rcases h.2 with ⟨hv, _⟩ | ⟨g', cap, cur, hv, _, hh, _⟩
 ·rw [hv] at hg; cases hg
 ·rw [hv] at hg; cases hg; exact ⟨cur, hh⟩
theorem own_slice {w : World} {B : Nat} {e : TypeId} {s n : Nat} {v : Value} {xs : List Value} (h : w.ownsRow B e s v n xs) : ∃ a c, v = .slice a n c := by
 rcases h.2 with ⟨hv, hn⟩ | ⟨g, cap, cur, hv, _⟩
 ·exact ⟨none, 0, by rw [hv, hn]⟩
 ·exact ⟨_, _, hv⟩
/-- Appending to a row: it stays where it is, or is a new one. -/
theorem run_app {e t ty : TypeId} {size bytes : Nat} {z : Value} (ht : Tryz.prog.underlying t = some (.slice e)) (hinfo : (Tryz.prog.info? e).map (fun i => (i.zero, i.size, i.bytes)) = some (some z, size, bytes)) (hz : z.cells.size = size) (hs0 : 0 < size) (hsz : bytes ≤ 72)
  {w : World} {v : Value} {n : Nat} {xs : List Value} (hown : w.ownsRow 0 e size v n xs)
  (a : Addr) (m c : Nat) (news : List Value) (hl : news.length = m * size) (hnews : ∀ j u, news[j]? = some u → w.cell? (a.add j) = some u) (h1 : ∀ u ∈ news, u.oneCell' = true) (hle : n + m ≤ 1000000) :
  ∃ v' w', (Builtin.append_ #[t, t] ty #[v, .slice (some a) m c]).run Tryz.prog w = .ok v' w' ∧ w'.ownsRow 0 e size v' (n + m) (xs ++ news) ∧ w.grownBy w' v.ownBlock ∧ (v'.ownBlock = v.ownBlock ∨ ∀ g, v'.ownBlock = some g → w.heap.size ≤ g) := by
 obtain ⟨i0, hi, hz0, hz1, hz2⟩ := info_parts hinfo
 have hle' := Nat.mul_le_mul hle hsz
 have hA := run_append_own (P := Tryz.prog) w 0 t ty e i0 z size bytes ht hi hz0 hz1 hz2 hz hs0 v n xs hown a m c news hl hnews h1 (by unfold maxLen; omega) (by omega) (Nat.zero_le _)
 rcases hown.2 with ⟨hv, hn⟩ | ⟨g, cap, cur, hv, hB, hh, hnc, hcm, hcs, htk⟩
 ·have hnew := run_append_own (P := Tryz.prog) w w.heap.size t ty e i0 z size bytes ht hi hz0 hz1 hz2 hz hs0 v n xs ⟨hown.1, .inl ⟨hv, hn⟩⟩ a m c news hl hnews h1 (by unfold maxLen; omega) (by omega) (Nat.le_refl _)
  obtain ⟨v', w', h2, h3, h4, _⟩ := hnew
  exact ⟨v', w', h2, own_zero h3, h4, .inr fun g hg => (h3.lt g hg).1⟩
 ·by_cases hroom : n + m ≤ cap
  ·obtain ⟨v', w', h2, h3, h4, _⟩ := hA
   refine ⟨v', w', h2, h3, h4, .inl ?_⟩
   have hsp : ∀ j, j < news.length → (0 + n * i0.size + j) < cur.size := by
    intro j hj
    rw [hcs, hz1]
    have : (n + m) * size ≤ cap * size := Nat.mul_le_mul_right _ hroom
    rw [Nat.add_mul] at this
    rw [hl] at hj
    omega
   have hr := run_append_room_cells (P := Tryz.prog) w t ty e i0 ht hi g 0 n cap a m c news (by rw [hz1]; exact hl) hnews h1 hroom (fun j hj => by
    rw [cell_of_row w g _ cur e (0, 0) hh]
    simp; have := hsp j hj; omega) (fun j hj => frozen_of_row w g _ cur e hh)
   rw [hv] at h2
   rw [hr] at h2
   cases h2
   rw [hv]; rfl
  ·have hg := run_append_arg_grows (P := Tryz.prog) w t ty e i0 z size bytes ht hi hz0 hz1 hz2 hz hs0 ⟨g, 0, none⟩ n cap xs hown.1 (hown.cells (by rw [hv]; rfl)) a m c news hl hnews (by omega) (by unfold maxLen; omega) (by omega)
   obtain ⟨v', w', h2, h3, h4⟩ := hg
   refine ⟨v', w', by rw [hv]; exact h2, own_zero h3, ⟨h4.os, h4.tape, h4.output, h4.size, fun k hk _ => h4.block k hk (by simp)⟩, .inr fun g hg => (h3.lt g hg).1⟩
/-! ### A block of bytes, a row of them, zones -/
abbrev Zn := List (List Int) × Int
theorem Tryz.zero_bytes : (Tryz.prog.info? 51).map (fun i => (i.zero, i.size, i.bytes)) = some (some (.slice none 0 0), 1, 24) := by kernel_rfl
theorem Tryz.zero_zone : (Tryz.prog.info? 102).map (fun i => (i.zero, i.size, i.bytes)) = some (some (.agg #[.slice none 0 0, .int .i64 0]), 2, 32) := by kernel_rfl
def BkAt (O : Nat → Prop) (W : World) (h : Value) (D : List Int) : Prop :=
 W.ownsRow 0 5 1 h D.length (u8s D) ∧ (∀ c, h.ownBlock = some c → O c) ∧ (∀ z ∈ D, Fits8 z) ∧ D.length ≤ 1000000
def BsAt (O : Nat → Prop) (W : World) (vs : List Value) (bs : List (List Int)) : Prop :=
 vs.length = bs.length ∧ ∀ (i : Nat) (h : Value) (D : List Int), vs[i]? = some h → bs[i]? = some D → BkAt O W h D
def RowAt (O : Nat → Prop) (W : World) (v : Value) (bs : List (List Int)) : Prop :=
 ∃ vs, W.ownsRow 0 51 1 v bs.length vs ∧ (∀ r, v.ownBlock = some r → O r) ∧ BsAt O W vs bs ∧ bs.length ≤ 100000
def zcells : List Value → List Zn → List Value
 | v :: vs, z :: zs => v :: .int .i64 z.2 :: zcells vs zs
 | _, _ => []
def Apart (vs : List Value) : Prop := ∀ (i j : Nat) (u v : Value) (r : Nat), vs[i]? = some u → vs[j]? = some v → u.ownBlock = some r → v.ownBlock = some r → i = j
theorem BkAt.out {O S : Nat → Prop} {W W' : World} {h : Value} {D : List Int} (hb : BkAt O W h D) (ho : Out S W W') (hS : ∀ c cur, O c → W.heap[c]? = some (.cells cur 5 (0, 0)) → ¬ S c) : BkAt O W' h D :=
 ⟨ho.own hb.1 (fun g hg => by obtain ⟨cur, hc⟩ := own_at_block hb.1 hg; exact hS g cur (hb.2.1 g hg) hc), hb.2⟩
theorem BsAt.out {O S : Nat → Prop} {W W' : World} {vs : List Value} {bs : List (List Int)} (hb : BsAt O W vs bs) (ho : Out S W W') (hS : ∀ c cur, O c → W.heap[c]? = some (.cells cur 5 (0, 0)) → ¬ S c) : BsAt O W' vs bs :=
 ⟨hb.1, fun i h D h1 h2 => (hb.2 i h D h1 h2).out ho hS⟩
theorem RowAt.out {O S : Nat → Prop} {W W' : World} {v : Value} {bs : List (List Int)} (hb : RowAt O W v bs) (ho : Out S W W') (h1 : ∀ r, v.ownBlock = some r → ¬ S r) (hS : ∀ c cur, O c → W.heap[c]? = some (.cells cur 5 (0, 0)) → ¬ S c) : RowAt O W' v bs := by
 obtain ⟨vs, a, b, c, d⟩ := hb
 exact ⟨vs, ho.own a h1, b, c.out ho hS, d⟩
theorem BkAt.mono {O O' : Nat → Prop} {W : World} {h : Value} {D : List Int} (hb : BkAt O W h D) (hO : ∀ c, O c → c < W.heap.size → O' c) : BkAt O' W h D :=
 ⟨hb.1, fun c hc => hO c (hb.2.1 c hc) (hb.1.lt c hc).2, hb.2.2⟩
theorem BsAt.mono {O O' : Nat → Prop} {W : World} {vs : List Value} {bs : List (List Int)} (hb : BsAt O W vs bs) (hO : ∀ c, O c → c < W.heap.size → O' c) : BsAt O' W vs bs := ⟨hb.1, fun i h D h1 h2 => (hb.2 i h D h1 h2).mono hO⟩
theorem RowAt.mono {O O' : Nat → Prop} {W : World} {v : Value} {bs : List (List Int)} (hb : RowAt O W v bs) (hO : ∀ c, O c → c < W.heap.size → O' c) : RowAt O' W v bs := by
 obtain ⟨vs, a, b, c, d⟩ := hb
 exact ⟨vs, a, fun r hr => hO r (b r hr) (a.lt r hr).2, c.mono hO, d⟩
theorem BsAt.nil (O : Nat → Prop) (W : World) : BsAt O W [] [] := ⟨rfl, fun i h D h1 _ => by simp at h1⟩
theorem BsAt.snoc {O : Nat → Prop} {W : World} {vs : List Value} {bs : List (List Int)} (h : BsAt O W vs bs) {u : Value} {D : List Int} (hd : BkAt O W u D) : BsAt O W (vs ++ [u]) (bs ++ [D]) := by
 refine ⟨by simp [h.1], fun i x E h1 h2 => ?_⟩
 by_cases hlt : i < bs.length
 ·rw [List.getElem?_append_left (by rw [h.1]; exact hlt)] at h1
  rw [List.getElem?_append_left hlt] at h2
  exact h.2 i x E h1 h2
 ·have hi : i = bs.length := by
   have := (List.getElem?_eq_some_iff.1 h2).1
   simp at this
   omega
  subst hi
  simp at h2
  rw [← h.1] at h1
  simp at h1
  subst h1; subst h2
  exact hd
theorem RowAt.nil (O : Nat → Prop) (W : World) : RowAt O W (.slice none 0 0) [] := ⟨[], World.ownsRow_nil W 0 51 1, (fun r h => by cases h), BsAt.nil O W, by simp⟩
theorem RowAt.slice {O : Nat → Prop} {W : World} {v : Value} {bs : List (List Int)} (h : RowAt O W v bs) : ∃ a c, v = .slice a bs.length c := by
 obtain ⟨vs, a, _⟩ := h; exact own_slice a
theorem zcells_length : ∀ (vs : List Value) (zs : List Zn), vs.length = zs.length → (zcells vs zs).length = zs.length * 2
 | [], [], _ => rfl
 | [], _ :: _, h => by simp at h
 | _ :: _, [], h => by simp at h
 | v :: vs, z :: zs, h => by
  have := zcells_length vs zs (by simpa using h)
  simp [zcells, this]; omega
theorem zcells_get : ∀ (vs : List Value) (zs : List Zn) (i : Nat) (v : Value) (z : Zn), vs[i]? = some v → zs[i]? = some z → (zcells vs zs)[2 * i]? = some v ∧ (zcells vs zs)[2 * i + 1]? = some (.int .i64 z.2)
 | [], _, i, v, z, h, _ => by simp at h
 | _ :: _, [], i, v, z, _, h => by simp at h
 | u :: vs, y :: zs, 0, v, z, h1, h2 => by simp at h1 h2; subst h1; subst h2; exact ⟨rfl, rfl⟩
 | u :: vs, y :: zs, i + 1, v, z, h1, h2 => by
  have := zcells_get vs zs i v z (by simpa using h1) (by simpa using h2)
  have e : 2 * (i + 1) = 2 * i + 1 + 1 := by omega
  rw [e]
  simpa [zcells] using this
theorem zcells_setV : ∀ (vs : List Value) (zs : List Zn) (i : Nat) (v : Value), vs.length = zs.length → (zcells vs zs).set (2 * i) v = zcells (vs.set i v) zs
 | [], [], i, v, _ => by simp [zcells]
 | [], _ :: _, _, _, h => by simp at h
 | _ :: _, [], _, _, h => by simp at h
 | u :: vs, y :: zs, 0, v, h => by simp [zcells]
 | u :: vs, y :: zs, i + 1, v, h => by
  have := zcells_setV vs zs i v (by simpa using h)
  have e : 2 * (i + 1) = 2 * i + 1 + 1 := by omega
  rw [e]
  simp [zcells, this]
theorem zcells_setD : ∀ (vs : List Value) (zs : List Zn) (i : Nat) (z : Zn), vs.length = zs.length → (zcells vs zs).set (2 * i + 1) (.int .i64 z.2) = zcells vs (zs.set i z)
 | [], [], i, z, _ => by simp [zcells]
 | [], _ :: _, _, _, h => by simp at h
 | _ :: _, [], _, _, h => by simp at h
 | u :: vs, y :: zs, 0, z, h => by simp [zcells]
 | u :: vs, y :: zs, i + 1, z, h => by
  have := zcells_setD vs zs i z (by simpa using h)
  have e : 2 * (i + 1) + 1 = 2 * i + 1 + 1 + 1 := by omega
  rw [e]
  simp [zcells, this]
theorem zcells_same (vs : List Value) (zs zs' : List Zn) (h : zs.map (·.2) = zs'.map (·.2)) : zcells vs zs = zcells vs zs' := by
 induction vs generalizing zs zs' with
 | nil => cases zs <;> cases zs' <;> rfl
 | cons v vs ih =>
  cases zs with
  | nil => cases zs' with
   | nil => rfl
   | cons => simp at h
  | cons y zs => cases zs' with
   | nil => simp at h
   | cons y' zs' =>
    simp at h
    simp [zcells, h.1, ih zs zs' h.2]
theorem BkAt.bin {O : Nat → Prop} {W : World} {a : Option Addr} {n c : Nat} {D : List Int} (h : BkAt O W (.slice a n c) D) : BIn W a n D ∧ (a = none → n = 0 ∧ c = 0) ∧ n = D.length := by
 have hn : n = D.length := by obtain ⟨_, _, e⟩ := own_slice h.1; cases e; rfl
 have h1 := h.1
 rw [← hn] at h1
 exact ⟨own_bin h1 (by have := h.2.2.2; unfold maxLen; omega) h.2.2.1, own_nil h1, hn⟩
theorem slice_front {t : TypeId} (ht : Tryz.prog.underlying t = some (.slice (Tryz.prog.elem t))) (hz : ∀ w : World, (sizeOf (Tryz.prog.elem t)).run Tryz.prog w = .ok 1 w) (a : Option Addr) (n c k : Nat) (hk : k ≤ c) (w : World) :
  (Instr.slice t (.slice a n c) none (some (.int .i64 (k : Int))) none).run Tryz.prog w = .ok (.slice a k c) w := by
 rw [run_slice_h (P := Tryz.prog) w t a n c ht .i64 k (by omega) (by omega), hz w]
 simp only [Result.andThen, Int.toNat_natCast]
 unfold sliced
 cases a with
 | none => simp
 | some x => simp [Addr.add]
theorem slice_back {t : TypeId} (ht : Tryz.prog.underlying t = some (.slice (Tryz.prog.elem t))) (hz : ∀ w : World, (sizeOf (Tryz.prog.elem t)).run Tryz.prog w = .ok 1 w) (a : Option Addr) (n c k : Nat) (hk : k ≤ n) (w : World) :
  (Instr.slice t (.slice a n c) (some (.int .i64 (k : Int))) none none).run Tryz.prog w = .ok (.slice (if c = k then a else a.map (·.add k)) (n - k) (c - k)) w := by
 rw [run_slice_l (P := Tryz.prog) w t a n c ht .i64 k (by omega) (by omega), hz w]
 simp only [Result.andThen, Int.toNat_natCast]
 unfold sliced
 rw [Nat.mul_one]
theorem Tryz.one_bytes : ∀ w : World, (sizeOf (Tryz.prog.elem 51)).run Tryz.prog w = .ok 1 w := fun _ => by kernel_rfl
theorem Tryz.one_blocks : ∀ w : World, (sizeOf (Tryz.prog.elem 100)).run Tryz.prog w = .ok 1 w := fun _ => by kernel_rfl
theorem Tryz.byte1 : (Tryz.prog.info? 5).map (·.size) = some 1 := by kernel_rfl
theorem within_of (n lo hi : Int) (w : World) :
  Calls Tryz.prog 39 #[.int .i64 n, .int .i64 lo, .int .i64 hi] w fun e w' => e = .returned (.bool (decide (lo ≤ n) && decide (n ≤ hi))) ∧ w' = w := by
 by_cases h1 : lo ≤ n
 ·have e : (decide (lo ≤ n) && decide (n ≤ hi)) = decide (n ≤ hi) := by simp [h1]
  rw [e]
  go_enter Tryz.func39, Tryz.ntmps39
  go_wp2
  go_ret
  exact ⟨by simp, rfl⟩
 ·have e : (decide (lo ≤ n) && decide (n ≤ hi)) = false := by simp [h1]
  rw [e]
  go_enter Tryz.func39, Tryz.ntmps39
  go_wp2
  go_ret
  exact ⟨rfl, rfl⟩
/-- A block's first m bytes, and noughts. -/
def tornL (D : List Int) (m : Nat) : List Int := D.take m ++ List.replicate (D.length - m) 0
theorem tornL_length {D : List Int} {m : Nat} (h : m ≤ D.length) : (tornL D m).length = D.length := by simp [tornL]; omega
theorem tornL_all (D : List Int) : tornL D D.length = D := by simp [tornL]
theorem tornL_fits {D : List Int} {m : Nat} (h : ∀ z ∈ D, Fits8 z) : ∀ z ∈ tornL D m, Fits8 z := by
 intro z hz
 simp only [tornL, List.mem_append, List.mem_replicate] at hz
 rcases hz with hz | ⟨_, rfl⟩
 ·exact h z (List.mem_of_mem_take hz)
 ·unfold Fits8; omega
theorem made_bytes (n : Nat) (w : World) : Blk (w.alloc (.cells (madeCells #[.int .u8 0] n) 5)) w.heap.size (u8s (List.replicate n 0)) 5 := by
 refine Blk.new' rfl ?_
 apply Array.ext'
 rw [toList_madeCells_one]
 simp [u8s]
theorem blk_own {w : World} {g n : Nat} {L : List Value} {t : TypeId} (B : Nat) (h : Blk w g L t) (hn : L.length = n) (hm : n ≤ maxLen) (hB : B ≤ g) : w.ownsRow B t 1 (.slice (some ⟨g, 0, none⟩) n n) n L :=
 ⟨by omega, .inr ⟨g, n, L.toArray, rfl, hB, h, Nat.le_refl _, hm, by simp [hn], by simp [← hn]⟩⟩
def Torn (w : World) (D : List Int) (m : Nat) (e : Ending) (w' : World) : Prop :=
 ∃ h, e = .returned h ∧ BkAt (fun k => w.heap.size ≤ k) w' h (tornL D m) ∧ Below w.heap.size w w' ∧ (∃ g, h = .slice (some ⟨g, 0, none⟩) D.length D.length ∧ w.heap.size ≤ g)
set_option maxHeartbeats 1000000 in
theorem torn_of (a : Option Addr) (n c m : Nat) (D : List Int) (w : World) (hb : BIn w a n D) (hm : m ≤ n) (hc : n ≤ c) (hn : n ≤ 100000) :
  Calls Tryz.prog 144 #[.slice a n c, .int .i64 m] w (Torn w D m) := by
 obtain ⟨q, hq⟩ : ∃ q, q = w.heap.size := ⟨_, rfl⟩
 have hmk := run_make_row' (P := Tryz.prog) 51 5 (.int .u8 0) 1 Tryz.underlying51 Tryz.zero_u8 rfl .i64 .i64 n (by omega) (by omega)
 have hsf := slice_front Tryz.underlying51 Tryz.one_bytes a n c m (by omega)
 have b0 := made_bytes n w
 rw [← hq] at b0
 have H : Hid (BIn w a n D ∧ m ≤ n ∧ n ≤ 100000 ∧ q = w.heap.size) := ⟨hb, hm, hn, hq⟩
 have H0 : Hid (Blk (w.alloc (.cells (madeCells #[.int .u8 0] n) 5)) q (u8s (List.replicate n 0)) 5 ∧ Below q w (w.alloc (.cells (madeCells #[.int .u8 0] n) 5))) := ⟨b0, (Below.refl _ _).alloc (by rw [hq]; exact Nat.le_refl _) _⟩
 clear hb hm hn hc b0
 go_enter Tryz.func144, Tryz.ntmps144
 go_upto_region 2 with fail
 generalize hW : World.alloc w _ = W at H0 ⊢
 rw [← hq]
 clear hW hmk hq
 have hlen : D.length = n := H.out.1.1
 have hin : BIn W a n D := H.out.1.below (by rw [← H.out.2.2.2]; exact H0.out.2)
 have HI : Hid (BIn W a n D ∧ D.length = n) := ⟨hin, hlen⟩
 clear hin hlen
 have s1 : Hid ((u8s (D.take m)).length = Nat.min m n) := show _ = _ by
  rw [u8s_length, List.length_take, HI.out.2]
 have s2 : Hid (0 < (u8s (D.take m)).length → (some ⟨q, 0, none⟩ : Option Addr) = some ⟨q, 0, none⟩ ∧ ∃ ad, a = some ad ∧ ∀ j v, (u8s (D.take m))[j]? = some v → W.cell? (ad.add j) = some v) := fun hp => ⟨rfl, by
  rw [u8s_length, List.length_take, HI.out.2] at hp
  obtain ⟨b, off, ha, hc⟩ := HI.out.1.2.2.2.resolve_left (by omega)
  refine ⟨_, ha, fun j v hj => ?_⟩
  have hj' : j < m ∧ j < n := by
   have := (List.getElem?_eq_some_iff.1 hj).1
   rw [u8s_length, List.length_take, HI.out.2] at this
   omega
  rw [Addr.add_mid, hc j hj'.2, ← hj]
  simp [u8s, List.getD, hj'.1, HI.out.2, hj'.2]⟩
 have s3 : Hid (0 + (u8s (D.take m)).length ≤ (u8s (List.replicate n 0)).length) := show _ ≤ _ by rw [u8s_length, u8s_length, List.length_take, HI.out.2, List.length_replicate]; omega
 go_upto_region 3 with (refine wpList_copy_splice rfl (.tmp 9) (.tmp 12) 51 51 rfl 5 Tryz.underlying51 Tryz.byte1 (some ⟨q, 0, none⟩) a n n m c rfl rfl q 0 (u8s (List.replicate n 0)) 5 H0.out.1 (u8s (D.take m)) s1.out s2.out s3.out (u8s_one _) q W (Below.refl _ _) (Nat.le_refl _) ?_; intro w4 h4 b4)
 have e4 : splice (u8s (List.replicate n 0)) 0 (u8s (D.take m)) = u8s (tornL D m) := by
  have h1 : (u8s (D.take m)).length = m := by rw [u8s_length, List.length_take, HI.out.2]; have := H.out.2.1; omega
  unfold splice
  rw [h1]
  simp [u8s, tornL, HI.out.2]
 have f4 : Blk w4 q (u8s (tornL D m)) 5 := by
  have := h4.out
  rw [e4] at this
  exact this
 have HF : Hid (Blk w4 q (u8s (tornL D m)) 5 ∧ Below q w w4) := ⟨f4, H0.out.2.trans b4⟩
 clear h4 b4 e4 f4
 go_wp2
 go_ret
 have hl := tornL_length (D := D) (m := m) (by rw [HI.out.2]; exact H.out.2.1)
 refine ⟨_, rfl, ⟨?_, ?_, tornL_fits H.out.1.2.2.1, by rw [hl, HI.out.2]; have := H.out.2.2.1; omega⟩, by rw [← H.out.2.2.2]; exact HF.out.2, q, (by rw [HI.out.2]; rfl), by rw [H.out.2.2.2]; exact Nat.le_refl _⟩
 ·rw [hl, HI.out.2]
  exact blk_own 0 HF.out.1 (by rw [u8s_length, hl, HI.out.2]) (by have := H.out.2.2.1; unfold maxLen; omega) (Nat.zero_le _)
 ·intro k hk
  cases hk
  rw [H.out.2.2.2]; exact Nat.le_refl _
theorem kept_of (k t : Int) (w : World) :
  Calls Tryz.prog 90 #[.agg #[.int .i64 k, .int .i64 t]] w fun e w' => e = .returned (.func (.func 145) #[] #[.pointer (some ⟨w.heap.size, 0, none⟩)]) ∧ w' = w.alloc (.cells #[.int .i64 k, .int .i64 t] 114) := by
 go_enter Tryz.func90, Tryz.ntmps90
 go_wp2
 go_ret
 exact ⟨rfl, rfl⟩
theorem cut_of (a : Option Addr) (n c f : Nat) (lb : Array Value) (w : World) :
  Calls Tryz.prog 89 #[.slice a n c, .func (.func f) #[] lb] w fun e w' => e = .returned (.func (.func 143) #[] #[.pointer (some ⟨w.heap.size, 0, none⟩), .pointer (some ⟨w.heap.size + 1, 0, none⟩)]) ∧ w' = (w.alloc (.cells #[.slice a n c] 100)).alloc (.cells #[.func (.func f) #[] lb] 107) := by
 go_enter Tryz.func89, Tryz.ntmps89
 go_wp2
 go_ret
 exact ⟨by simp, rfl⟩
theorem out_cell (w : World) (g i : Nat) (v : Value) : Out (fun j => j = g) w (w.setCell ⟨g, i, none⟩ v) := (Out.refl (fun j => j = g) w).setCell (p := ⟨g, i, none⟩) (.inl rfl) v
/-- How much fits, and what is left of the loss. -/
def keptN (k t : Int) (n : Nat) : Nat := if 0 < k then n else min t.toNat n
def keptK (k t : Int) : Int × Int := if 0 < k then (k - 1, t) else (k, 0)
theorem kept1_of (k t : Int) (g : Nat) (a : Option Addr) (n c : Nat) (w : World) (hb : Blk w g [.int .i64 k, .int .i64 t] 114) (hk : k < 9223372036854775808) :
  Calls Tryz.prog 145 #[.slice a n c, .pointer (some ⟨g, 0, none⟩)] w fun e w' => e = .returned (.int .i64 (keptN k t n)) ∧ Blk w' g [.int .i64 (keptK k t).1, .int .i64 (keptK k t).2] 114 ∧ Out (fun j => j = g) w w' ∧ w'.heap.size = w.heap.size := by
 have c0 : w.cell? ⟨g, 0, none⟩ = some (.int .i64 k) := hb.cell 0
 have c1 : w.cell? ⟨g, 1, none⟩ = some (.int .i64 t) := hb.cell 1
 have z0 := hb.frozen 0
 have z1 := hb.frozen 1
 have HB : Hid (Blk w g [.int .i64 k, .int .i64 t] 114) := hb
 clear hb
 by_cases h : 0 < k
 ·have e1 : keptN k t n = n := by simp [keptN, h]
  have e2 : keptK k t = (k - 1, t) := by simp [keptK, h]
  have hw : IntKind.i64.wrap (k - 1) = k - 1 := by rw [IntKind.wrap_i64]; omega
  rw [e1, e2]
  clear hk
  go_enter Tryz.func145, Tryz.ntmps145
  go_wp2
  go_ret
  exact ⟨rfl, HB.out.set 0 _, out_cell _ _ _ _, by simp [World.setCell]⟩
 ·have e2 : keptK k t = (k, 0) := by simp [keptK, h]
  rw [e2]
  clear hk
  have fin : ∀ v, v = Value.int .i64 (keptN k t n) → ∀ w', w' = w.setCell ⟨g, 1, none⟩ (.int .i64 0) → (Ending.returned v = .returned (.int .i64 (keptN k t n)) ∧ Blk w' g [.int .i64 k, .int .i64 0] 114 ∧ Out (fun j => j = g) w w' ∧ w'.heap.size = w.heap.size) := by
   intro v hv w' hw'
   subst hv; subst hw'
   exact ⟨rfl, HB.out.set 1 _, out_cell _ _ _ _, by simp [World.setCell]⟩
  have HF : Hid (∀ v, v = Value.int .i64 (keptN k t n) → ∀ w', w' = w.setCell ⟨g, 1, none⟩ (.int .i64 0) → (Ending.returned v = .returned (.int .i64 (keptN k t n)) ∧ Blk w' g [.int .i64 k, .int .i64 0] 114 ∧ Out (fun j => j = g) w w' ∧ w'.heap.size = w.heap.size)) := fin
  have HN : Hid (keptN k t n = min t.toNat n) := show _ = _ by simp [keptN, h]
  clear fin e2
  have h' : k ≤ 0 := by omega
  generalize keptN k t n = N at HF HN ⊢
  rcases Int.lt_trichotomy t 0 with ht | rfl | ht
  ·rcases Nat.eq_zero_or_pos n with rfl | hn
   ·go_enter Tryz.func145, Tryz.ntmps145
    go_wp2
    go_ret
    exact HF.out _ (by rw [HN.out]; simp) _ rfl
   ·have hn' : (0 : Int) < n := by omega
    go_enter Tryz.func145, Tryz.ntmps145
    go_wp2
    go_ret
    exact HF.out _ (by rw [HN.out]; have : t.toNat = 0 := by omega
                       rw [this]; simp) _ rfl
  ·rcases Nat.eq_zero_or_pos n with rfl | hn
   ·go_enter Tryz.func145, Tryz.ntmps145
    go_wp2
    go_ret
    exact HF.out _ (by rw [HN.out]; simp) _ rfl
   ·have hn' : (0 : Int) < n := by omega
    go_enter Tryz.func145, Tryz.ntmps145
    go_wp2
    go_ret
    exact HF.out _ (by rw [HN.out]; simp) _ rfl
  ·rcases Int.lt_trichotomy t n with hn | hn | hn
   ·go_enter Tryz.func145, Tryz.ntmps145
    go_wp2
    go_ret
    exact HF.out _ (by rw [HN.out]; have : ((min t.toNat n : Nat) : Int) = t := by omega
                       rw [this]; rfl) _ rfl
   ·have HT : Hid (t = n) := hn
    subst hn
    go_enter Tryz.func145, Tryz.ntmps145
    go_wp2
    go_ret
    exact HF.out _ (by rw [HN.out]; simp) _ rfl
   ·go_enter Tryz.func145, Tryz.ntmps145
    go_wp2
    go_ret
    exact HF.out _ (by rw [HN.out]; have : ((min t.toNat n : Nat) : Int) = n := by omega
                       rw [this]; rfl) _ rfl
end Go.Proofs.YtcdnjeiamihhbabGreat
