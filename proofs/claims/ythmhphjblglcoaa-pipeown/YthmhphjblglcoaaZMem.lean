/- Memory of a device: what lies outside of a set of blocks; blocks of bytes, rows of them, zones. -/
import Derived.Test.YthmhphjblglcoaaSpBase
import Derived.Test.YthmhphjblglcoaaBlk
import Derived.ArgAppend
import Derived.Laws.OwnMore
import Derived.RangeFuncBox
namespace Go.Proofs.Ythmhphjblglcoaa
open Go.RowKit
set_option linter.unusedVariables false
set_option maxRecDepth 4000

/-! ### All but the blocks of a set lie as they lay -/
structure Out (O : Nat → Prop) (w w' : World) : Prop where
  os : w'.os = w.os
  tape : w'.tape = w.tape
  output : w'.output = w.output
  size : w.heap.size ≤ w'.heap.size
  block : ∀ k, k < w.heap.size → ¬ O k → w'.heap[k]? = w.heap[k]?
def Non : Nat → Prop := fun _ => False
def Ext (O : Nat → Prop) (w w' : World) : Nat → Prop := fun k => O k ∨ (w.heap.size ≤ k ∧ k < w'.heap.size)

theorem Out.refl (O : Nat → Prop) (w : World) : Out O w w := ⟨rfl, rfl, rfl, Nat.le_refl _, fun _ _ _ => rfl⟩
theorem Out.trans {O O' : Nat → Prop} {a b c : World} (h : Out O a b) (k : Out O' b c) (hO : ∀ j, O' j → O j ∨ a.heap.size ≤ j) : Out O a c :=
  ⟨k.os.trans h.os, k.tape.trans h.tape, k.output.trans h.output, Nat.le_trans h.size k.size, fun i hi hn => by
    rw [k.block i (Nat.lt_of_lt_of_le hi h.size) (fun e => by rcases hO i e with e | e; exact hn e; omega)]; exact h.block i hi hn⟩
theorem Out.mono {O O' : Nat → Prop} {a b : World} (h : Out O a b) (hO : ∀ j, O j → j < a.heap.size → O' j) : Out O' a b :=
  ⟨h.os, h.tape, h.output, h.size, fun i hi hn => h.block i hi (fun e => hn (hO i e hi))⟩
theorem Out.below {O : Nat → Prop} {w w' : World} {n : Nat} (h : Out O w w') (hn : n ≤ w.heap.size) (hO : ∀ j, O j → n ≤ j) : Below n w w' :=
  ⟨h.os, h.tape, h.output, h.size, fun k hk => h.block k (by omega) (fun e => by have := hO k e; omega)⟩
theorem below_out {w w' : World} (O : Nat → Prop) (h : Below w.heap.size w w') : Out O w w' := ⟨h.os, h.tape, h.output, h.size, fun k hk _ => h.block k hk⟩
theorem below_out' {w w' : World} {n : Nat} {O : Nat → Prop} (h : Below n w w') (hO : ∀ j, n ≤ j → j < w.heap.size → O j) : Out O w w' :=
  ⟨h.os, h.tape, h.output, h.size, fun k hk hn => h.block k (by rcases Nat.lt_or_ge k n with h | h; exact h; exact (hn (hO k h hk)).elim)⟩
theorem Out.alloc {O : Nat → Prop} {a w : World} (h : Out O a w) (o : Obj) : Out O a (w.alloc o) :=
  h.trans (O' := Non) ⟨rfl, rfl, rfl, by simp, fun k hk _ => Below.heap_alloc _ _ _ hk⟩ (fun _ e => e.elim)
theorem Out.setCell {O : Nat → Prop} {a w : World} (h : Out O a w) {p : Addr} (hp : O p.block ∨ a.heap.size ≤ p.block) (u : Value) : Out O a (w.setCell p u) :=
  h.trans (O' := fun k => k = p.block) ⟨rfl, rfl, rfl, by simp [World.setCell], fun k _ hn => Below.heap_setCell _ _ _ _ hn⟩ (fun j e => by subst e; exact hp)
theorem Out.drew {O : Nat → Prop} {a w : World} (h : Out O a w) : Out O a w.drew := ⟨h.os, h.tape, h.output, h.size, h.block⟩
theorem Out.grown {O : Nat → Prop} {a w w' : World} {row : Option Nat} (h : Out O a w) (hg : w.grownBy w' row) (hr : ∀ k, row = some k → O k ∨ a.heap.size ≤ k) : Out O a w' :=
  h.trans (O' := fun k => row = some k) ⟨hg.os, hg.tape, hg.output, hg.size, fun k hk hn => hg.block k hk (fun e => hn e.symm)⟩ hr
theorem Out.under {O : Nat → Prop} {a w w' : World} (h : Out O a w) (hb : Below w.heap.size w w') : Out O a w' :=
  h.trans (below_out Non hb) (fun _ e => e.elim)
theorem Out.blk {O : Nat → Prop} {w w' : World} {g : Nat} {L : List Value} {t : TypeId} (h : Out O w w') (hb : Blk w g L t) (hg : ¬ O g) : Blk w' g L t := by
  unfold Blk; rw [h.block g hb.lt hg]; exact hb
theorem Out.own {O : Nat → Prop} {w w' : World} {B : Nat} {e : TypeId} {s n : Nat} {v : Value} {xs : List Value} (h : Out O w w') (hr : w.ownsRow B e s v n xs) (hg : ∀ g, v.ownBlock = some g → ¬ O g) : w'.ownsRow B e s v n xs := by
  refine ⟨hr.1, ?_⟩
  rcases hr.2 with h2 | ⟨g, cap, cur, hv, hB, hh, r⟩
  · exact .inl h2
  · exact .inr ⟨g, cap, cur, hv, hB, by rw [h.block g (Array.getElem?_eq_some_iff.1 hh).1 (hg g (by rw [hv]; rfl))]; exact hh, r⟩
theorem Out.cell {O : Nat → Prop} {w w' : World} (h : Out O w w') {p : Addr} {v : Value} (hc : w.cell? p = some v) (hg : ¬ O p.block) : w'.cell? p = some v := by
  rw [World.cell?_of_block (w := w) (h.block p.block (old_block hc) hg)]; exact hc
theorem own_base {w : World} {B B' : Nat} {e : TypeId} {s n : Nat} {v : Value} {xs : List Value} (h : w.ownsRow B e s v n xs) (hb : ∀ g, v.ownBlock = some g → B' ≤ g) : w.ownsRow B' e s v n xs := by
  refine ⟨h.1, ?_⟩
  rcases h.2 with h2 | ⟨g, cap, cur, hv, hB, r⟩
  · exact .inl h2
  · exact .inr ⟨g, cap, cur, hv, hb g (by rw [hv]; rfl), r⟩
theorem own_zero {w : World} {B : Nat} {e : TypeId} {s n : Nat} {v : Value} {xs : List Value} (h : w.ownsRow B e s v n xs) : w.ownsRow 0 e s v n xs := own_base h (fun _ _ => Nat.zero_le _)
theorem own_at_block {w : World} {B : Nat} {e : TypeId} {s n : Nat} {v : Value} {xs : List Value} (h : w.ownsRow B e s v n xs) {g : Nat} (hg : v.ownBlock = some g) : ∃ cur, w.heap[g]? = some (.cells cur e (0, 0)) := by
  rcases h.2 with ⟨hv, _⟩ | ⟨g', cap, cur, hv, _, hh, _⟩
  · rw [hv] at hg; cases hg
  · rw [hv] at hg; cases hg; exact ⟨cur, hh⟩
theorem own_slice {w : World} {B : Nat} {e : TypeId} {s n : Nat} {v : Value} {xs : List Value} (h : w.ownsRow B e s v n xs) : ∃ a c, v = .slice a n c := by
  rcases h.2 with ⟨hv, hn⟩ | ⟨g, cap, cur, hv, _⟩
  · exact ⟨none, 0, by rw [hv, hn]⟩
  · exact ⟨_, _, hv⟩

/-- Appending to a row: it stays where it is, or is a new one. -/
theorem run_app {e t ty : TypeId} {size bytes : Nat} {z : Value} (ht : Try.prog.underlying t = some (.slice e)) (hinfo : (Try.prog.info? e).map (fun i => (i.zero, i.size, i.bytes)) = some (some z, size, bytes)) (hz : z.cells.size = size) (hs0 : 0 < size) (hsz : bytes ≤ 72)
    {w : World} {v : Value} {n : Nat} {xs : List Value} (hown : w.ownsRow 0 e size v n xs)
    (a : Addr) (m c : Nat) (news : List Value) (hl : news.length = m * size) (hnews : ∀ j u, news[j]? = some u → w.cell? (a.add j) = some u) (h1 : ∀ u ∈ news, u.oneCell' = true) (hle : n + m ≤ 1000000) :
    ∃ v' w', (Builtin.append_ #[t, t] ty #[v, .slice (some a) m c]).run Try.prog w = .ok v' w' ∧ w'.ownsRow 0 e size v' (n + m) (xs ++ news) ∧ w.grownBy w' v.ownBlock ∧ (v'.ownBlock = v.ownBlock ∨ ∀ g, v'.ownBlock = some g → w.heap.size ≤ g) := by
  obtain ⟨i0, hi, hz0, hz1, hz2⟩ := info_parts hinfo
  have hle' := Nat.mul_le_mul hle hsz
  have hA := run_append_own (P := Try.prog) w 0 t ty e i0 z size bytes ht hi hz0 hz1 hz2 hz hs0 v n xs hown a m c news hl hnews h1 (by unfold maxLen; omega) (by omega) (Nat.zero_le _)
  rcases hown.2 with ⟨hv, hn⟩ | ⟨g, cap, cur, hv, hB, hh, hnc, hcm, hcs, htk⟩
  · have hnew := run_append_own (P := Try.prog) w w.heap.size t ty e i0 z size bytes ht hi hz0 hz1 hz2 hz hs0 v n xs ⟨hown.1, .inl ⟨hv, hn⟩⟩ a m c news hl hnews h1 (by unfold maxLen; omega) (by omega) (Nat.le_refl _)
    obtain ⟨v', w', h2, h3, h4, _⟩ := hnew
    exact ⟨v', w', h2, own_zero h3, h4, .inr fun g hg => (h3.lt g hg).1⟩
  · by_cases hroom : n + m ≤ cap
    · obtain ⟨v', w', h2, h3, h4, _⟩ := hA
      refine ⟨v', w', h2, h3, h4, .inl ?_⟩
      have hsp : ∀ j, j < news.length → (0 + n * i0.size + j) < cur.size := by
        intro j hj
        rw [hcs, hz1]
        have : (n + m) * size ≤ cap * size := Nat.mul_le_mul_right _ hroom
        rw [Nat.add_mul] at this
        rw [hl] at hj
        omega
      have hr := run_append_room_cells (P := Try.prog) w t ty e i0 ht hi g 0 n cap a m c news (by rw [hz1]; exact hl) hnews h1 hroom (fun j hj => by
        rw [cell_of_row w g _ cur e (0, 0) hh]
        simp; have := hsp j hj; omega) (fun j hj => frozen_of_row w g _ cur e hh)
      rw [hv] at h2
      rw [hr] at h2
      cases h2
      rw [hv]; rfl
    · have hg := run_append_arg_grows (P := Try.prog) w t ty e i0 z size bytes ht hi hz0 hz1 hz2 hz hs0 ⟨g, 0, none⟩ n cap xs hown.1 (hown.cells (by rw [hv]; rfl)) a m c news hl hnews (by omega) (by unfold maxLen; omega) (by omega)
      obtain ⟨v', w', h2, h3, h4⟩ := hg
      refine ⟨v', w', by rw [hv]; exact h2, own_zero h3, ⟨h4.os, h4.tape, h4.output, h4.size, fun k hk _ => h4.block k hk (by simp)⟩, .inr fun g hg => (h3.lt g hg).1⟩

/-! ### A block of bytes, a row of them, zones -/
abbrev Zn := List (List Int) × Int
theorem Try.zero_bytes : (Try.prog.info? 32).map (fun i => (i.zero, i.size, i.bytes)) = some (some (.slice none 0 0), 1, 24) := by kernel_rfl
def BkAt (O : Nat → Prop) (W : World) (h : Value) (D : List Int) : Prop :=
  W.ownsRow 0 5 1 h D.length (u8s D) ∧ (∀ c, h.ownBlock = some c → O c) ∧ (∀ z ∈ D, Fits8 z) ∧ D.length ≤ 1000000
def BsAt (O : Nat → Prop) (W : World) (vs : List Value) (bs : List (List Int)) : Prop :=
  vs.length = bs.length ∧ ∀ (i : Nat) (h : Value) (D : List Int), vs[i]? = some h → bs[i]? = some D → BkAt O W h D
def RowAt (O : Nat → Prop) (W : World) (v : Value) (bs : List (List Int)) : Prop :=
  ∃ vs, W.ownsRow 0 32 1 v bs.length vs ∧ (∀ r, v.ownBlock = some r → O r) ∧ BsAt O W vs bs ∧ bs.length ≤ 100000
def zcells : List Value → List Zn → List Value
  | v :: vs, z :: zs => v :: .int .i64 z.2 :: zcells vs zs
  | _, _ => []
def Apart (vs : List Value) : Prop := ∀ (i j : Nat) (u v : Value) (r : Nat), vs[i]? = some u → vs[j]? = some v → u.ownBlock = some r → v.ownBlock = some r → i = j
theorem BkAt.out {O S : Nat → Prop} {W W' : World} {h : Value} {D : List Int} (hb : BkAt O W h D) (ho : Out S W W') (hS : ∀ c cur, O c → W.heap[c]? = some (.cells cur 5 (0, 0)) → ¬ S c) : BkAt O W' h D :=
  ⟨ho.own hb.1 (fun g hg => by obtain ⟨cur, hc⟩ := own_at_block hb.1 hg; exact hS g cur (hb.2.1 g hg) hc), hb.2⟩
theorem BsAt.out {O S : Nat → Prop} {W W' : World} {vs : List Value} {bs : List (List Int)} (hb : BsAt O W vs bs) (ho : Out S W W') (hS : ∀ c cur, O c → W.heap[c]? = some (.cells cur 5 (0, 0)) → ¬ S c) : BsAt O W' vs bs :=
  ⟨hb.1, fun i h D h1 h2 => (hb.2 i h D h1 h2).out ho hS⟩
theorem RowAt.out {O S : Nat → Prop} {W W' : World} {v : Value} {bs : List (List Int)} (hb : RowAt O W v bs) (ho : Out S W W') (h1 : ∀ r, v.ownBlock = some r → ¬ S r) (hS : ∀ c cur, O c → W.heap[c]? = some (.cells cur 5 (0, 0)) → ¬ S c) : RowAt O W' v bs := by
  obtain ⟨vs, a, b, c, d⟩ := hb
  exact ⟨vs, ho.own a h1, b, c.out ho hS, d⟩
theorem BkAt.mono {O O' : Nat → Prop} {W : World} {h : Value} {D : List Int} (hb : BkAt O W h D) (hO : ∀ c, O c → c < W.heap.size → O' c) : BkAt O' W h D :=
  ⟨hb.1, fun c hc => hO c (hb.2.1 c hc) (hb.1.lt c hc).2, hb.2.2⟩
theorem BsAt.mono {O O' : Nat → Prop} {W : World} {vs : List Value} {bs : List (List Int)} (hb : BsAt O W vs bs) (hO : ∀ c, O c → c < W.heap.size → O' c) : BsAt O' W vs bs := ⟨hb.1, fun i h D h1 h2 => (hb.2 i h D h1 h2).mono hO⟩
theorem RowAt.mono {O O' : Nat → Prop} {W : World} {v : Value} {bs : List (List Int)} (hb : RowAt O W v bs) (hO : ∀ c, O c → c < W.heap.size → O' c) : RowAt O' W v bs := by
  obtain ⟨vs, a, b, c, d⟩ := hb
  exact ⟨vs, a, fun r hr => hO r (b r hr) (a.lt r hr).2, c.mono hO, d⟩
theorem BsAt.nil (O : Nat → Prop) (W : World) : BsAt O W [] [] := ⟨rfl, fun i h D h1 _ => by simp at h1⟩
theorem BsAt.snoc {O : Nat → Prop} {W : World} {vs : List Value} {bs : List (List Int)} (h : BsAt O W vs bs) {u : Value} {D : List Int} (hd : BkAt O W u D) : BsAt O W (vs ++ [u]) (bs ++ [D]) := by
  refine ⟨by simp [h.1], fun i x E h1 h2 => ?_⟩
  by_cases hlt : i < bs.length
  · rw [List.getElem?_append_left (by rw [h.1]; exact hlt)] at h1
    rw [List.getElem?_append_left hlt] at h2
    exact h.2 i x E h1 h2
  · have hi : i = bs.length := by
      have := (List.getElem?_eq_some_iff.1 h2).1
      simp at this
      omega
    subst hi
    simp at h2
    rw [← h.1] at h1
    simp at h1
    subst h1; subst h2
    exact hd
theorem RowAt.nil (O : Nat → Prop) (W : World) : RowAt O W (.slice none 0 0) [] := ⟨[], World.ownsRow_nil W 0 32 1, (fun r h => by cases h), BsAt.nil O W, by simp⟩
theorem RowAt.slice {O : Nat → Prop} {W : World} {v : Value} {bs : List (List Int)} (h : RowAt O W v bs) : ∃ a c, v = .slice a bs.length c := by
  obtain ⟨vs, a, _⟩ := h; exact own_slice a

theorem zcells_length : ∀ (vs : List Value) (zs : List Zn), vs.length = zs.length → (zcells vs zs).length = zs.length * 2
  | [], [], _ => rfl
  | [], _ :: _, h => by simp at h
  | _ :: _, [], h => by simp at h
  | v :: vs, z :: zs, h => by
    have := zcells_length vs zs (by simpa using h)
    simp [zcells, this]; omega
theorem zcells_get : ∀ (vs : List Value) (zs : List Zn) (i : Nat) (v : Value) (z : Zn), vs[i]? = some v → zs[i]? = some z → (zcells vs zs)[2 * i]? = some v ∧ (zcells vs zs)[2 * i + 1]? = some (.int .i64 z.2)
  | [], _, i, v, z, h, _ => by simp at h
  | _ :: _, [], i, v, z, _, h => by simp at h
  | u :: vs, y :: zs, 0, v, z, h1, h2 => by simp at h1 h2; subst h1; subst h2; exact ⟨rfl, rfl⟩
  | u :: vs, y :: zs, i + 1, v, z, h1, h2 => by
    have := zcells_get vs zs i v z (by simpa using h1) (by simpa using h2)
    have e : 2 * (i + 1) = 2 * i + 1 + 1 := by omega
    rw [e]
    simpa [zcells] using this
theorem zcells_setV : ∀ (vs : List Value) (zs : List Zn) (i : Nat) (v : Value), vs.length = zs.length → (zcells vs zs).set (2 * i) v = zcells (vs.set i v) zs
  | [], [], i, v, _ => by simp [zcells]
  | [], _ :: _, _, _, h => by simp at h
  | _ :: _, [], _, _, h => by simp at h
  | u :: vs, y :: zs, 0, v, h => by simp [zcells]
  | u :: vs, y :: zs, i + 1, v, h => by
    have := zcells_setV vs zs i v (by simpa using h)
    have e : 2 * (i + 1) = 2 * i + 1 + 1 := by omega
    rw [e]
    simp [zcells, this]
theorem zcells_setD : ∀ (vs : List Value) (zs : List Zn) (i : Nat) (z : Zn), vs.length = zs.length → (zcells vs zs).set (2 * i + 1) (.int .i64 z.2) = zcells vs (zs.set i z)
  | [], [], i, z, _ => by simp [zcells]
  | [], _ :: _, _, _, h => by simp at h
  | _ :: _, [], _, _, h => by simp at h
  | u :: vs, y :: zs, 0, z, h => by simp [zcells]
  | u :: vs, y :: zs, i + 1, z, h => by
    have := zcells_setD vs zs i z (by simpa using h)
    have e : 2 * (i + 1) + 1 = 2 * i + 1 + 1 + 1 := by omega
    rw [e]
    simp [zcells, this]
theorem zcells_snoc : ∀ (vs : List Value) (zs : List Zn) (v : Value) (z : Zn), vs.length = zs.length → zcells vs zs ++ [v, .int .i64 z.2] = zcells (vs ++ [v]) (zs ++ [z])
  | [], [], v, z, _ => rfl
  | [], _ :: _, _, _, h => by simp at h
  | _ :: _, [], _, _, h => by simp at h
  | u :: vs, y :: zs, v, z, h => by
    have := zcells_snoc vs zs v z (by simpa using h)
    simp [zcells, ← this]
theorem zcells_same (vs : List Value) (zs zs' : List Zn) (h : zs.map (·.2) = zs'.map (·.2)) : zcells vs zs = zcells vs zs' := by
  induction vs generalizing zs zs' with
  | nil => cases zs <;> cases zs' <;> rfl
  | cons v vs ih =>
    cases zs with
    | nil => cases zs' with
      | nil => rfl
      | cons => simp at h
    | cons y zs => cases zs' with
      | nil => simp at h
      | cons y' zs' =>
        simp at h
        simp [zcells, h.1, ih zs zs' h.2]

theorem BkAt.bin {O : Nat → Prop} {W : World} {a : Option Addr} {n c : Nat} {D : List Int} (h : BkAt O W (.slice a n c) D) : BIn W a n D ∧ (a = none → n = 0 ∧ c = 0) ∧ n = D.length := by
  have hn : n = D.length := by obtain ⟨_, _, e⟩ := own_slice h.1; cases e; rfl
  have h1 := h.1
  rw [← hn] at h1
  exact ⟨own_bin h1 (by have := h.2.2.2; unfold maxLen; omega) h.2.2.1, own_nil h1, hn⟩
end Go.Proofs.Ythmhphjblglcoaa
