/- P34 -/
import Derived.Shelf.SlSortCmp.NoneTotal
import Derived.Test.YtcdnjeiamihhbabGreatP33
set_option linter.unusedVariables false
set_option maxRecDepth 4000
namespace Go.Proofs.YtcdnjeiamihhbabGreat
open Go.RowKit Go.Sort Go.Lib Go.Shelf
theorem Tryz.zero_name : (Tryz.prog.info? 180).map (fun i => (i.zero, i.size, i.bytes)) = some (some (.agg #[.int .u32 0, .int .u64 0]), 2, 16) := by kernel_rfl
theorem row_ne_iter {k : TypeId} {R : Value → Option (DataW Value × List MemPlace)} {w : World} {b r n : Nat} {D : DataW Value} {left : Lit → Bool} {cnt base : Nat} {e : TypeId} {size : Nat} {v : Value} {m : Nat} {xs : List Value}
  (h : w.ownsRow base e size v m xs) (hr : w.ranges Tryz.prog k R b r n D left cnt) : some b ≠ v.ownBlock ∧ some r ≠ v.ownBlock := by
 obtain ⟨_, _, _, _, _, hmap, _, _, _, hit, _⟩ := hr
 rcases h.2 with ⟨rfl, _⟩ | ⟨g, cap, cur, rfl, _, hb, _⟩
 ·simp [Value.ownBlock]
 ·constructor
  ·intro e1
   have : b = g := by simpa [Value.ownBlock] using e1
   subst this
   rw [hmap] at hb
   cases hb
  ·intro e1
   have : r = g := by simpa [Value.ownBlock] using e1
   subst this
   rw [hit] at hb
   cases hb
/-- One pair more. -/
theorem app_pair {t e : TypeId} {q0 q1 : IntKind} {z : Value} (ht : Tryz.prog.underlying t = some (.slice e)) (hinfo : (Tryz.prog.info? e).map (fun i => (i.zero, i.size, i.bytes)) = some (some z, 2, 16)) (hz : z.cells.size = 2)
  {W : World} {B : Nat} {a : Option Addr} {n cc : Nat} {xs : List Pr} (h : W.ownsRow B e 2 (.slice a n cc) n (prC q0 q1 xs)) (x : Pr) (hn : n ≤ 100000) (hB : B ≤ W.heap.size) (q : Nat) (hq : W.heap.size = q) :
  ∃ g' cc' W', (Builtin.append_ #[t, t] t #[.slice a n cc, .slice (some ⟨q, 0, none⟩) 1 1]).run Tryz.prog (W.alloc (.cells #[.int q0 x.1, .int q1 x.2] e)) = .ok (.slice (some ⟨g', 0, none⟩) (n + 1) cc') W' ∧
   W'.ownsRow B e 2 (.slice (some ⟨g', 0, none⟩) (n + 1) cc') (n + 1) (prC q0 q1 (xs ++ [x])) ∧ W.grownBy W' (Value.slice a n cc).ownBlock := by
 subst hq
 have hb : Blk (W.alloc (.cells #[.int q0 x.1, .int q1 x.2] e)) W.heap.size (prL q0 q1 x) e := Blk.new' rfl rfl
 obtain ⟨v', W', h1, h2, h3, h4⟩ := run_app (ty := t) ht hinfo hz (by decide) (by decide) (own_zero (h.alloc (.cells #[.int q0 x.1, .int q1 x.2] e))) ⟨W.heap.size, 0, none⟩ 1 1 (prL q0 q1 x) rfl (fun j u hj => by rw [Addr.add_mid, Nat.zero_add, hb.cell]; exact hj) (prL_one x) (by omega)
 rw [prC_snoc] at h2
 rcases h2.2 with ⟨_, h0⟩ | ⟨g', cc', cur, rfl, hB', hh, r⟩
 ·omega
 ·refine ⟨g', cc', W', h1, own_base h2 (fun g hg => ?_), (World.grownBy_alloc W _ _).andThen h3 (fun j e => .inr e)⟩
  rcases h4 with h4 | h4
  ·exact (h.lt g (by rw [← h4]; exact hg)).1
  ·have := h4 g hg
   simp at this
   omega
theorem lwpList_append_run {ops : Array Oper} {rest : List Oper} {o : Oper} {a : Act} {Q : Exit → Act → World → Prop} {w : World} (hg : o.guard = none) (s x : Operand) (t t2 : TypeId)
  (hop : o.op = .call { callee := .builtin .append, args := #[s, x], argTypes := #[t, t2] }) (sv xv : Value) (hs : a.eval s = sv) (hx : a.eval x = xv) (v : Value) (w' : World) (hrun : (Builtin.append_ #[t, t2] o.type #[sv, xv]).run Tryz.prog w = .ok v w') (hK : wpList Tryz.prog ops Q rest (a.put o.dst v) w') :
  wpList Tryz.prog ops Q (o :: rest) a w := by
 refine wpList_plain hg fun K hK' => ?_
 unfold Oper.wp
 simp [execOp, hop, resolve, invoke, builtin, hs, hx, hrun, Result.andThen]
 exact hK' _ _ hK
theorem made_places (n : Nat) : madeCells #[.int .u32 0, .int .u64 0, .int .i64 0, .int .i64 0] (n * 4) = (plC (List.replicate n pl0)).toArray := by
 apply Array.ext'
 apply List.ext_getElem?
 intro j
 by_cases hj : j < n * 4
 ·have hi : j / 4 < n := by omega
  have := plC_at (List.replicate n pl0) (j / 4) pl0 (j % 4) (by simp [hi]) (by omega)
  have e : j / 4 * 4 + j % 4 = j := by omega
  rw [e] at this
  rw [List.toList_toArray, this]
  have h4 : j % 4 = 0 ∨ j % 4 = 1 ∨ j % 4 = 2 ∨ j % 4 = 3 := by omega
  rcases h4 with h4 | h4 | h4 | h4 <;> simp [madeCells, hj, h4, plL, pl0]
 ·rw [List.getElem?_eq_none (by simp [madeCells]; omega), List.getElem?_eq_none (by rw [List.toList_toArray, plC_length]; simp; omega)]
theorem run_places (n : Nat) (hn : n ≤ 1000000) (W : World) : (Instr.makeSlice 76 (.int .i64 (n : Int)) (.int .i64 (n : Int))).run Tryz.prog W = .ok (.slice (some ⟨W.heap.size, 0, none⟩) n n) (W.alloc (.cells (plC (List.replicate n pl0)).toArray 131)) := by
 obtain ⟨i0, hi, hz0, hz1, hz2⟩ := info_parts Tryz.zero_place
 have := run_make (P := Tryz.prog) W 76 131 i0 _ Tryz.underlying76 hi hz0 .i64 .i64 n n (by omega) (Int.le_refl _) (by rw [hz2]; omega) (by omega)
 rw [this, hz1]
 have e : ((n : Int).toNat * 4) = n * 4 := by simp
 rw [e, show (Value.agg #[.int .u32 0, .int .u64 0, .int .i64 0, .int .i64 0]).cells = #[.int .u32 0, .int .u64 0, .int .i64 0, .int .i64 0] from rfl, made_places]
 simp
theorem pair_cells {q0 q1 : IntKind} {w : World} {base : Nat} {e : TypeId} {g n cc : Nat} {xs : List Pr} (h : w.ownsRow base e 2 (.slice (some ⟨g, 0, none⟩) n cc) n (prC q0 q1 xs)) {i : Nat} {x : Pr} (hx : xs[i]? = some x) : w.cell? ⟨g, i * 2, none⟩ = some (.int q0 x.1) ∧ w.cell? ⟨g, i * 2 + 1, none⟩ = some (.int q1 x.2) := by
 have h0 := h.cells (g := g) rfl (i * 2 + 0) (.int q0 x.1) (by rw [prC_at xs i x 0 hx (by decide)]; rfl)
 have h1 := h.cells (g := g) rfl (i * 2 + 1) (.int q1 x.2) (by rw [prC_at xs i x 1 hx (by decide)]; rfl)
 rw [Addr.add_mid, Nat.zero_add] at h0 h1
 exact ⟨h0, h1⟩
/-- All places up to the k-th, in the list that is told. -/
structure AllB (w : World) (p b1 b2 : Nat) (S L : List Pl) (c g o k : Nat) (q0 q1 : IntKind) (f : Pl → Pr) (wr : World) : Prop where
 lm : LmP wr p b1 b2 S c
 nm : ∀ i x, L[i]? = some x → wr.cell? ⟨g, i * 2, none⟩ = some (.int q0 (f x).1) ∧ wr.cell? ⟨g, i * 2 + 1, none⟩ = some (.int q1 (f x).2)
 ob : Blk wr o (plC (L.take k ++ List.replicate (L.length - k) pl0)) 131
 le : w.heap.size ≤ o
 pl : p < w.heap.size
 ne : g ≠ o
 bel : RowKit.Below w.heap.size w wr
theorem AllB.below {w : World} {p b1 b2 : Nat} {S L : List Pl} {c g o k : Nat} {q0 q1 : IntKind} {f : Pl → Pr} {wr wr' : World} (h : AllB w p b1 b2 S L c g o k q0 q1 f wr) (hb : RowKit.Below wr.heap.size wr wr') : AllB w p b1 b2 S L c g o k q0 q1 f wr' :=
 ⟨h.lm.below hb, fun i x hx => ⟨(hb.cell (old_block (h.nm i x hx).1)).trans (h.nm i x hx).1, (hb.cell (old_block (h.nm i x hx).2)).trans (h.nm i x hx).2⟩, h.ob.below hb h.ob.lt, h.le, h.pl, h.ne, below_on h.bel hb⟩
theorem lfill_step (L : List Pl) (k : Nat) (x : Pl) (hx : L[k]? = some x) : (L.take k ++ List.replicate (L.length - k) pl0).set k x = L.take (k + 1) ++ List.replicate (L.length - (k + 1)) pl0 := by
 have hk : k < L.length := (List.getElem?_eq_some_iff.1 hx).1
 have hl : (L.take k).length = k := by rw [List.length_take]; omega
 have hx' : L[k] = x := (List.getElem?_eq_some_iff.1 hx).2
 rw [List.take_succ_eq_append_getElem hk, List.set_append_right _ _ (by omega), hl, Nat.sub_self, hx']
 obtain ⟨m, hm⟩ : ∃ m, L.length - k = m + 1 := ⟨L.length - k - 1, by omega⟩
 have hm' : L.length - (k + 1) = m := by omega
 rw [hm, hm', List.replicate_succ, List.set_cons_zero, List.append_assoc]; rfl
theorem AllB.room {w : World} {p b1 b2 : Nat} {S L : List Pl} {c g o k : Nat} {q0 q1 : IntKind} {f : Pl → Pr} {wr : World} (h : AllB w p b1 b2 S L c g o k q0 q1 f wr) (hk : k < L.length) :
  (wr.cell? ⟨o, k * 4, none⟩ = some (.int .u32 0) ∧ wr.cell? ⟨o, k * 4 + 1, none⟩ = some (.int .u64 0) ∧ wr.cell? ⟨o, k * 4 + 2, none⟩ = some (.int .i64 0) ∧ wr.cell? ⟨o, k * 4 + 3, none⟩ = some (.int .i64 0)) ∧ (wr.frozen? ⟨o, k * 4, none⟩ = false ∧ wr.frozen? ⟨o, k * 4 + 1, none⟩ = false ∧ wr.frozen? ⟨o, k * 4 + 2, none⟩ = false ∧ wr.frozen? ⟨o, k * 4 + 3, none⟩ = false) := by
 have hl : (L.take k).length = k := by rw [List.length_take]; omega
 have hx : (L.take k ++ List.replicate (L.length - k) pl0)[k]? = some pl0 := by
  rw [List.getElem?_append_right (by omega), hl, Nat.sub_self, List.getElem?_replicate, if_pos (by omega)]
 have hc := fun j (hj : j < 4) => (h.ob.cell (k * 4 + j)).trans (plC_at _ k pl0 j hx hj)
 exact ⟨⟨hc 0 (by decide), hc 1 (by decide), hc 2 (by decide), hc 3 (by decide)⟩, h.ob.frozen _, h.ob.frozen _, h.ob.frozen _, h.ob.frozen _⟩
theorem AllB.told {w : World} {p b1 b2 : Nat} {S L : List Pl} {c g o : Nat} {q0 q1 : IntKind} {f : Pl → Pr} {wr : World} (h : AllB w p b1 b2 S L c g o L.length q0 q1 f wr) (hl : L.length ≤ 1000000) : wr.ownsRow w.heap.size 131 4 (.slice (some ⟨o, 0, none⟩) L.length L.length) L.length (plC L) := by
 have hb := h.ob
 rw [List.take_length, Nat.sub_self, List.replicate_zero, List.append_nil] at hb
 refine ⟨plC_length L, .inr ⟨o, L.length, _, rfl, h.le, hb, Nat.le_refl _, by unfold maxLen; omega, by rw [List.size_toArray, plC_length], ?_⟩⟩
 rw [List.toList_toArray, List.take_of_length_le (by rw [plC_length]; omega)]
theorem AllB.step {w : World} {p b1 b2 : Nat} {S L : List Pl} {c g o k : Nat} {q0 q1 : IntKind} {f : Pl → Pr} {wr : World} (h : AllB w p b1 b2 S L c g o k q0 q1 f wr) {x : Pl} (hx : L[k]? = some x) :
  AllB w p b1 b2 S L c g o (k + 1) q0 q1 f ((((wr.setCell ⟨o, k * 4, none⟩ (.int .u32 x.1.1)).setCell ⟨o, k * 4 + 1, none⟩ (.int .u64 x.1.2)).setCell ⟨o, k * 4 + 2, none⟩ (.int .i64 x.2.1)).setCell ⟨o, k * 4 + 3, none⟩ (.int .i64 x.2.2)) := by
 have hk : k < L.length := (List.getElem?_eq_some_iff.1 hx).1
 have ho : Out (fun j => j = o) wr ((((wr.setCell ⟨o, k * 4, none⟩ (.int .u32 x.1.1)).setCell ⟨o, k * 4 + 1, none⟩ (.int .u64 x.1.2)).setCell ⟨o, k * 4 + 2, none⟩ (.int .i64 x.2.1)).setCell ⟨o, k * 4 + 3, none⟩ (.int .i64 x.2.2)) :=
  ((((Out.refl (fun j => j = o) wr).setCell (p := ⟨o, k * 4, none⟩) (.inl rfl) _).setCell (p := ⟨o, k * 4 + 1, none⟩) (.inl rfl) _).setCell (p := ⟨o, k * 4 + 2, none⟩) (.inl rfl) _).setCell (p := ⟨o, k * 4 + 3, none⟩) (.inl rfl) _
 have hb := (((h.ob.set (k * 4) (.int .u32 x.1.1)).set (k * 4 + 1) (.int .u64 x.1.2)).set (k * 4 + 2) (.int .i64 x.2.1)).set (k * 4 + 3) (.int .i64 x.2.2)
 rw [plC_set _ k x (by simp; omega), lfill_step L k x hx] at hb
 refine ⟨h.lm.out ho ?_, fun i y hy => ⟨ho.cell (h.nm i y hy).1 h.ne, ho.cell (h.nm i y hy).2 h.ne⟩, hb, h.le, h.pl, h.ne, ⟨h.bel.os, h.bel.tape, h.bel.output, Nat.le_trans h.bel.size ho.size, fun j hj => ?_⟩⟩
 ·rintro j (rfl | rfl | rfl) e
  ·have h1 := h.pl; have h2 := h.le; omega
  ·exact (h.lm.m1.no_blk h.ob) e.symm
  ·exact (h.lm.m2.no_blk h.ob) e.symm
 ·rw [ho.block j (Nat.lt_of_lt_of_le hj h.bel.size) (by have := h.le; omega)]
  exact h.bel.block j hj
/-- The names that a range has met, in a row. -/
def AllA (w : World) (b1 r c : Nat) (D : DataW Value) (v : Value) (wr : World) : Prop :=
 ∃ left cnt xs g cc, wr.ranges Tryz.prog 180 heldR b1 r c D left cnt ∧ Coll kN D left xs ∧ v = .slice (some ⟨g, 0, none⟩) xs.length cc ∧ wr.ownsRow w.heap.size 180 2 (.slice (some ⟨g, 0, none⟩) xs.length cc) xs.length (prC .u32 .u64 xs) ∧ RowKit.Below w.heap.size w wr ∧ xs.length + cnt ≤ c
set_option maxHeartbeats 4000000 in
theorem mAll_of (p b1 b2 : Nat) (S : List Pl) (c : Nat) (w : World) (h : LmP w p b1 b2 S c) (hc : c < 100000) :
  Calls Tryz.prog 52 #[.pointer (some ⟨p, 0, none⟩)] w fun e w' => ∃ a n cc, e = .returned (.slice a n cc) ∧ w'.ownsRow w.heap.size 131 4 (.slice a n cc) n (plC S) ∧ RowKit.Below w.heap.size w w' := by
 obtain ⟨D, hown, hD⟩ := h.m1
 have c0 := h.hp.cell 0
 simp only [List.getElem?_cons_zero] at c0
 have HD : Hid (DIs kN D (fun n s => (n, s) ∈ S)) := hD
 have HG : Hid (LmP w p b1 b2 S c) := h
 have hb1 := h.m1.lt
 obtain ⟨i0, hi, hz0, hz1, hz2⟩ := info_parts Tryz.zero_name
 have hsz := hown.size_le
 obtain ⟨N, hN⟩ : ∃ N, N = Maps.size D := ⟨_, rfl⟩
 have hlen := fun ty => hown.len (t := 175) Tryz.underlying175 ty
 rw [← hN] at hsz hlen
 obtain ⟨w1, hmk, ho1, hg1⟩ := run_make_own (P := Tryz.prog) w w.heap.size 174 180 i0 _ 2 Tryz.underlying174 hi hz0 hz1 .i64 .i64 N (by rw [hz2]; omega) (by unfold maxLen; omega) (Nat.le_refl _)
 have c1 : w1.cell? ⟨p, 0, none⟩ = some (.map (some b1)) := by rw [World.cell?_of_block (hg1.block p h.hp.lt (by simp))]; exact c0
 have hown1 := hown.kept hg1 (by simp)
 have bel1 : RowKit.Below w.heap.size w w1 := (RowKit.Below.refl _ _).grown hg1 (Nat.le_refl _) (fun k hk => by cases hk)
 have HM : Hid (w1.ownsRow w.heap.size 180 2 (.slice (some ⟨w.heap.size, 0, none⟩) 0 N) 0 [] ∧ RowKit.Below w.heap.size w w1 ∧ Maps.size D ≤ c) := ⟨ho1, bel1, by omega⟩
 clear hD h ho1 hg1 bel1 hi hz0 hz1 hz2 hN
 go_enter Tryz.func52, Tryz.ntmps52
 go_wp2_with (first | (at_range; refine wpList_range_own _ rfl _ 175 rfl 180 185 okN.keyed Tryz.underlying175 _ b1 c D rfl hown1 ?_; intro w0 hrg0 hg0 hs0) | go_in)
 go_frame
 obtain ⟨r, hr⟩ : ∃ r, r = w1.heap.size := ⟨_, rfl⟩
 rw [← hr] at hrg0 hs0 ⊢
 have hrle : w.heap.size ≤ r := by rw [hr]; exact HM.out.2.1.size
 clear hr
 go_loopw [3, 4] (fun v _ wr => AllA w b1 r c D v wr) (fun _ _ wr => wr.rangeLeft b1 r)
 case atStart => exact ⟨_, _, [], _, _, hrg0, Coll.start kN D, rfl, HM.out.1.kept hg0 (Classical.em _), HM.out.2.1.grown hg0 HM.out.2.1.size (fun k hk => by cases hk), by have := HM.out.2.2; simpa using this⟩
 case round =>
  obtain ⟨left, cnt, xs, g, cc, hrg, hC, rfl, hO, hB, hle⟩ := hrel
  have HC : Hid (Coll kN D left xs ∧ RowKit.Below w.heap.size w wr ∧ wr.ownsRow w.heap.size 180 2 (.slice (some ⟨g, 0, none⟩) xs.length cc) xs.length (prC .u32 .u64 xs)) := ⟨hC, hB, hO⟩
  clear hC hB hO hrg0 hg0 hs0 hown1 c1 hmk hlen hsz
  go_wp2_with (first
   | (at_next; refine wpList_next_ranges _ rfl _ rfl 180 okN.keyed heldR (fun x : Pr => Value.agg #[.int .u32 x.1, .int .u64 x.2]) (fun v : Value => v) invKN invV b1 r c _ _ _ rfl hrg ?_ ?_)
   | go_in)
  ·intro _ hl0
   have HL : Hid (xs.Perm (S.map (·.1))) := names_perm HG.out.good HC.out.1.1 (fun x => HC.out.1.all HD.out hl0 x)
   have C := sortN_of g cc xs.toArray wr (own_holds HC.out.2.2).1 (own_holds HC.out.2.2).2 (by simp; omega)
   simp only [List.size_toArray] at C
   go_wp2_with fail
   refine C.mono ?_
   rintro e w3 ⟨rfl, d', n', os, hp, hs, rfl⟩
   have hd := sorted_is hp hs HL.out (by rw [List.pairwise_map]; exact HG.out.good.up)
   have hlen := HL.out.length_eq
   rw [List.length_map] at hlen
   rw [hd]
   have hO3 := sort_own (n := n') (os := os) HC.out.2.2 (ts := S.map (·.1)) (by rw [List.length_map]; exact hlen.symm)
   have hG3 := grownBy_sortedK (q0 := .u32) (q1 := .u64) (w := wr) (g := g) (n := n') (os := os) (S.map (·.1)).toArray
   have hB3 := HC.out.2.1.grown hG3 HC.out.2.1.size (fun k hk => by cases hk; exact (HC.out.2.2.lt g rfl).1)
   generalize sortWorldK (prL .u32 .u64) 2 wr g 0 n' (S.map (·.1)).toArray os = W at hO3 hG3 hB3 ⊢
   rw [hlen] at hO3 ⊢
   have hSl : S.length ≤ c := by omega
   clear hp hs hd C hG3 hlen
   have HW : Hid (W.ownsRow w.heap.size 180 2 (.slice (some ⟨g, 0, none⟩) S.length cc) S.length (prC .u32 .u64 (S.map (·.1))) ∧ RowKit.Below w.heap.size w W) := ⟨hO3, hB3⟩
   have hmk := run_places S.length (by omega) W
   have HB : Hid (AllB w p b1 b2 S S c g W.heap.size 0 .u32 .u64 (·.1) (W.alloc (.cells (plC (List.replicate S.length pl0)).toArray 131))) := by
    have hbA : RowKit.Below W.heap.size W (W.alloc (.cells (plC (List.replicate S.length pl0)).toArray 131)) := (RowKit.Below.refl _ _).alloc (Nat.le_refl _) _
    refine ⟨(HG.out.below hB3).below hbA, fun i x hx => ?_, by simpa using Blk.new' rfl rfl, hB3.size, HG.out.hp.lt, ?_, below_on hB3 hbA⟩
    ·have hx' : (S.map (·.1))[i]? = some x.1 := by rw [List.getElem?_map, hx]; rfl
     obtain ⟨d0, d1⟩ := pair_cells hO3 hx'
     exact ⟨(hbA.cell (old_block d0)).trans d0, (hbA.cell (old_block d1)).trans d1⟩
    ·have := (hO3.lt g rfl).2; omega
   clear hO3 hB3 HW HC HM HD HL hown hrg hle
   go_wp2_with fail
   generalize W.alloc (.cells (plC (List.replicate S.length pl0)).toArray 131) = Y at HB ⊢
   generalize W.heap.size = o at HB ⊢
   go_loopw [6, 7, 34] (fun _ _ i wr => ∃ k : Nat, k ≤ S.length ∧ i = .int .i64 k ∧ AllB w p b1 b2 S S c g o k .u32 .u64 (·.1) wr) (fun _ _ i _ => S.length - (intOf i).toNat)
   case atStart => exact ⟨0, by omega, rfl, HB.out⟩
   case round =>
    rename_i wr0
    obtain ⟨k, hk, rfl, hA⟩ := hrel
    by_cases hlt : k < S.length
    ·have hlt' : (k : Int) < S.length := by omega
     obtain ⟨x, hx⟩ : ∃ x, S[k]? = some x := ⟨_, List.getElem?_eq_getElem hlt⟩
     obtain ⟨n0, n1⟩ := hA.nm k x hx
     have hxm : (x.1, x.2) ∈ S := List.mem_of_getElem? hx
     have hget : getS S x.1 = some x.2 := (getS_some hA.lm.good).2 hxm
     have hf := hA.lm.good.fits x hxm
     have hV := hA.below ((RowKit.Below.refl _ _).alloc (Nat.le_refl _) (.cells #[.int .u32 x.1.1, .int .u64 x.1.2] 180))
     have m0 := hV.lm.hp.cell 0
     simp only [List.getElem?_cons_zero] at m0
     have hl := hV.lm.drew.lookN1 hf.1
     have hl' := hV.lm.lookN1 hf.1
     rw [hget] at hl hl'
     simp only [Option.getD_some] at hl hl'
     have HA : Hid (AllB w p b1 b2 S S c g o k .u32 .u64 (·.1) wr) := hA
     have HV : Hid (AllB w p b1 b2 S S c g o k .u32 .u64 (·.1) (wr.alloc (.cells #[.int .u32 x.1.1, .int .u64 x.1.2] 180))) := hV
     have HX : Hid (S[k]? = some x) := hx
     have C := fun X => mPlace_of x.1 x.2 X
     clear hA hV hx hxm hget hf
     go_wp2_with fail
     have np : p ≠ o := by have h1 := HA.out.pl; have h2 := HA.out.le; omega
     have nq : wr.heap.size ≠ o := by have h1 := HA.out.ob.lt; omega
     have k1 : (wr.alloc (.cells #[.int .u32 x.1.1, .int .u64 x.1.2] 180)).cell? ⟨wr.heap.size, 0, none⟩ = some (.int .u32 x.1.1) := by go_simp
     have k2 : (wr.alloc (.cells #[.int .u32 x.1.1, .int .u64 x.1.2] 180)).cell? ⟨wr.heap.size, 1, none⟩ = some (.int .u64 x.1.2) := by go_simp
     go_region_held3 (fun X => X.cell? ⟨p, 0, none⟩ = some (.map (some b1)) ∧ X.cell? ⟨wr.heap.size, 0, none⟩ = some (.int .u32 x.1.1) ∧ X.cell? ⟨wr.heap.size, 1, none⟩ = some (.int .u64 x.1.2)) (first | exact ⟨m0, k1, k2⟩ | exact ⟨j0, j1, j2⟩ | exact ⟨kept_set (kept_set (kept_set (kept_set j0 np) np) np) np, kept_set (kept_set (kept_set (kept_set j1 nq) nq) nq) nq, kept_set (kept_set (kept_set (kept_set j2 nq) nq) nq) nq⟩)
      ((go_simp; go_at_call 98; refine (C _).mono ?_; rintro e w4 ⟨rfl, hb4⟩; have hb5 : RowKit.Below (wr.alloc (.cells #[.int .u32 x.1.1, .int .u64 x.1.2] 180)).heap.size (wr.alloc (.cells #[.int .u32 x.1.1, .int .u64 x.1.2] 180)) w4 := ⟨hb4.os, hb4.tape, hb4.output, hb4.size, hb4.block⟩; have j0 := (hb5.cell (old_block m0)).trans m0; have j1 := (hb5.cell (old_block k1)).trans k1; have j2 := (hb5.cell (old_block k2)).trans k2; have hA4 := HV.out.below hb5; have H4 : Hid (AllB w p b1 b2 S S c g o k .u32 .u64 (·.1) w4) := hA4; obtain ⟨⟨x0, x1, x2, x3⟩, y0, y1, y2, y3⟩ := hA4.room hlt; clear hA4 hb4 hb5))
     all_goals (
      have HS : Hid (AllB w p b1 b2 S S c g o (k + 1) .u32 .u64 (·.1) ((((w4.setCell ⟨o, k * 4, none⟩ (.int .u32 x.1.1)).setCell ⟨o, k * 4 + 1, none⟩ (.int .u64 x.1.2)).setCell ⟨o, k * 4 + 2, none⟩ (.int .i64 x.2.1)).setCell ⟨o, k * 4 + 3, none⟩ (.int .i64 x.2.2))) := H4.out.step HX.out
      clear x0 x1 x2 x3 y0 y1 y2 y3 j0 j1 j2 H4
      go_wp2
      go_roundw
      case rel => exact ⟨k + 1, by omega, by go_num, HS.out⟩
      case measure => simp [intOf]; omega)
    ·have hge : (S.length : Int) ≤ k := by omega
     have hkn : k = S.length := by omega
     have HA : Hid (AllB w p b1 b2 S S c g o S.length .u32 .u64 (·.1) wr) := by rw [← hkn]; exact hA
     clear hA hkn
     go_wp2
     go_ret
     exact ⟨_, _, _, rfl, HA.out.told (by omega), HA.out.bel⟩
  ·intro xa xb v kl ya yb w2 cnt1 hkey hlx hv hat hrg1 hlt hg1 hs1 hen
   obtain ⟨x, hx0⟩ : ∃ x : Pr, x = (xa, xb) := ⟨_, rfl⟩
   obtain rfl : xa = x.1 := by rw [hx0]
   obtain rfl : xb = x.2 := by rw [hx0]
   clear hx0
   obtain ⟨hkx, rfl⟩ := keyN_of hkey
   obtain ⟨hC, hB, hO⟩ := HC.out
   have hB2 := hB.grown hg1 hB.size (fun k hk => by cases hk; exact hrle)
   have hO2 := (hO.kept hg1 (.inr (fun e => (row_ne_iter hO hrg).2 e.symm))).alloc (.cells #[.int .u32 x.1, .int .u64 x.2] 180)
   obtain ⟨g', cc', W', hrun, hO3, hgr⟩ := app_pair (q0 := .u32) (q1 := .u64) Tryz.underlying174 Tryz.zero_name rfl hO2 x (by omega) (by have := hB2.size; simp; omega) (w2.heap.size + 1) (by simp)
   have hr2 := hrg1.alloc (.cells #[.int .u32 x.1, .int .u64 x.2] 180)
   have hr3 := hr2.kept hgr (row_ne_iter hO2 hr2).1 (row_ne_iter hO2 hr2).2
   have hB3 : RowKit.Below w.heap.size w W' := (hB2.alloc hB2.size _).grown hgr (by have := hB2.size; simp; omega) (fun k hk => (hO2.lt k hk).1)
   have HA : Hid (AllA w b1 r c D (.slice (some ⟨g', 0, none⟩) (xs.length + 1) cc') W' ∧ W'.rangeLeft b1 r < wr.rangeLeft b1 r) := by
    refine ⟨⟨_, cnt1, xs ++ [x], g', cc', hr3, hC.step okN hkx hlx hat, by simp, by simpa using hO3, hB3, by simp; omega⟩, ?_⟩
    rw [hr3.left_eq, hrg.left_eq]; exact hlt
   clear hC hB hO hB2 hO2 hO3 hgr hr2 hr3 hB3 hkey hlx hv hat hrg1 hg1 hrg HC hs1
   go_wp2_with (first | (at_builtin; refine lwpList_append_run rfl _ _ 174 174 rfl _ _ rfl rfl _ _ hrun ?_) | go_in)
   go_roundw
   case rel => exact HA.out.1
   case measure => exact HA.out.2

end Go.Proofs.YtcdnjeiamihhbabGreat
namespace Go.Proofs.YtcdnjeiamihhbabGreat
open Go.RowKit
/-! Places that are compared. -/



theorem lown_cap {w : World} {base : Nat} {a : Option Addr} {n c : Nat} {zs : List Value} (h : w.ownsRow base 131 4 (.slice a n c) n zs) : n ≤ c := by
 rcases h.2 with ⟨hv, hn⟩ | ⟨g, cap, cur, hv, _, _, h3, _⟩
 ·cases hv; omega
 ·cases hv; exact h3
end Go.Proofs.YtcdnjeiamihhbabGreat
