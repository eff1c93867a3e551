/- Texts of this seat, one behind the other: LmA, LmR, LmQ, StD. -/
import Derived.Test.YtfcbcpjcmihooaaGreatJ9
import Derived.Test.YtfcbcpjcmihooaaGreatJ27
import Derived.Deep.RegionHeld3
import Derived.OwnWalk
import Derived.Test.YtfcbcpjcmihooaaGreatJ20
import Derived.BigQuiet
import Derived.Test.YtfcbcpjcmihooaaGreatJ21
/- What one call of All does. -/
namespace Go.Proofs.YtfcbcpjcmihooaaGreat
open Go.RowKit Go.Sort Go.Lib Go.Shelf
set_option linter.unusedVariables false
set_option maxRecDepth 4000

theorem Tryz.zero_name : (Tryz.prog.info? 124).map (fun i => (i.zero, i.size, i.bytes)) = some (some (.agg #[.int .u32 0, .int .u64 0]), 2, 16) := by kernel_rfl
theorem Tryz.zero_spot : (Tryz.prog.info? 129).map (fun i => (i.zero, i.size, i.bytes)) = some (some (.agg #[.int .i64 0, .int .i64 0]), 2, 16) := by kernel_rfl
theorem row_ne_iter {k : TypeId} {R : Value → Option (DataW Value × List MemPlace)} {w : World} {b r n : Nat} {D : DataW Value} {left : Lit → Bool} {cnt base : Nat} {e : TypeId} {size : Nat} {v : Value} {m : Nat} {xs : List Value}
    (h : w.ownsRow base e size v m xs) (hr : w.ranges Tryz.prog k R b r n D left cnt) : some b ≠ v.ownBlock ∧ some r ≠ v.ownBlock := by
  obtain ⟨_, _, _, _, _, hmap, _, _, _, hit, _⟩ := hr
  rcases h.2 with ⟨rfl, _⟩ | ⟨g, cap, cur, rfl, _, hb, _⟩
  · simp [Value.ownBlock]
  · constructor
    · intro e1
      have : b = g := by simpa [Value.ownBlock] using e1
      subst this
      rw [hmap] at hb
      cases hb
    · intro e1
      have : r = g := by simpa [Value.ownBlock] using e1
      subst this
      rw [hit] at hb
      cases hb
/-- One pair more. -/
theorem app_pair {t e : TypeId} {q0 q1 : IntKind} {z : Value} (ht : Tryz.prog.underlying t = some (.slice e)) (hinfo : (Tryz.prog.info? e).map (fun i => (i.zero, i.size, i.bytes)) = some (some z, 2, 16)) (hz : z.cells.size = 2)
    {W : World} {B : Nat} {a : Option Addr} {n cc : Nat} {xs : List Pr} (h : W.ownsRow B e 2 (.slice a n cc) n (prC q0 q1 xs)) (x : Pr) (hn : n ≤ 100000) (hB : B ≤ W.heap.size) (q : Nat) (hq : W.heap.size = q) :
    ∃ g' cc' W', (Builtin.append_ #[t, t] t #[.slice a n cc, .slice (some ⟨q, 0, none⟩) 1 1]).run Tryz.prog (W.alloc (.cells #[.int q0 x.1, .int q1 x.2] e)) = .ok (.slice (some ⟨g', 0, none⟩) (n + 1) cc') W' ∧
      W'.ownsRow B e 2 (.slice (some ⟨g', 0, none⟩) (n + 1) cc') (n + 1) (prC q0 q1 (xs ++ [x])) ∧ W.grownBy W' (Value.slice a n cc).ownBlock := by
  subst hq
  have hb : Blk (W.alloc (.cells #[.int q0 x.1, .int q1 x.2] e)) W.heap.size (prL q0 q1 x) e := Blk.new' rfl rfl
  obtain ⟨v', W', h1, h2, h3, h4⟩ := run_app (ty := t) ht hinfo hz (by decide) (by decide) (own_zero (h.alloc (.cells #[.int q0 x.1, .int q1 x.2] e))) ⟨W.heap.size, 0, none⟩ 1 1 (prL q0 q1 x) rfl (fun j u hj => by rw [Addr.add_mid, Nat.zero_add, hb.cell]; exact hj) (prL_one x) (by omega)
  rw [prC_snoc] at h2
  rcases h2.2 with ⟨_, h0⟩ | ⟨g', cc', cur, rfl, hB', hh, r⟩
  · omega
  · refine ⟨g', cc', W', h1, own_base h2 (fun g hg => ?_), (World.grownBy_alloc W _ _).andThen h3 (fun j e => .inr e)⟩
    rcases h4 with h4 | h4
    · exact (h.lt g (by rw [← h4]; exact hg)).1
    · have := h4 g hg
      simp at this
      omega
theorem lwpList_append_run {ops : Array Oper} {rest : List Oper} {o : Oper} {a : Act} {Q : Exit → Act → World → Prop} {w : World} (hg : o.guard = none) (s x : Operand) (t t2 : TypeId)
    (hop : o.op = .call { callee := .builtin .append, args := #[s, x], argTypes := #[t, t2] }) (sv xv : Value) (hs : a.eval s = sv) (hx : a.eval x = xv) (v : Value) (w' : World) (hrun : (Builtin.append_ #[t, t2] o.type #[sv, xv]).run Tryz.prog w = .ok v w') (hK : wpList Tryz.prog ops Q rest (a.put o.dst v) w') :
    wpList Tryz.prog ops Q (o :: rest) a w := by
  refine wpList_plain hg fun K hK' => ?_
  unfold Oper.wp
  simp [execOp, hop, resolve, invoke, builtin, hs, hx, hrun, Result.andThen]
  exact hK' _ _ hK
theorem made_places (n : Nat) : madeCells #[.int .u32 0, .int .u64 0, .int .i64 0, .int .i64 0] (n * 4) = (plC (List.replicate n pl0)).toArray := by
  apply Array.ext'
  apply List.ext_getElem?
  intro j
  by_cases hj : j < n * 4
  · have hi : j / 4 < n := by omega
    have := plC_at (List.replicate n pl0) (j / 4) pl0 (j % 4) (by simp [hi]) (by omega)
    have e : j / 4 * 4 + j % 4 = j := by omega
    rw [e] at this
    rw [List.toList_toArray, this]
    have h4 : j % 4 = 0 ∨ j % 4 = 1 ∨ j % 4 = 2 ∨ j % 4 = 3 := by omega
    rcases h4 with h4 | h4 | h4 | h4 <;> simp [madeCells, hj, h4, plL, pl0]
  · rw [List.getElem?_eq_none (by simp [madeCells]; omega), List.getElem?_eq_none (by rw [List.toList_toArray, plC_length]; simp; omega)]
theorem run_places (n : Nat) (hn : n ≤ 1000000) (W : World) : (Instr.makeSlice 46 (.int .i64 (n : Int)) (.int .i64 (n : Int))).run Tryz.prog W = .ok (.slice (some ⟨W.heap.size, 0, none⟩) n n) (W.alloc (.cells (plC (List.replicate n pl0)).toArray 62)) := by
  obtain ⟨i0, hi, hz0, hz1, hz2⟩ := info_parts Tryz.zero_place
  have := run_make (P := Tryz.prog) W 46 62 i0 _ Tryz.underlying46 hi hz0 .i64 .i64 n n (by omega) (Int.le_refl _) (by rw [hz2]; omega) (by omega)
  rw [this, hz1]
  have e : ((n : Int).toNat * 4) = n * 4 := by simp
  rw [e, show (Value.agg #[.int .u32 0, .int .u64 0, .int .i64 0, .int .i64 0]).cells = #[.int .u32 0, .int .u64 0, .int .i64 0, .int .i64 0] from rfl, made_places]
  simp
theorem pair_cells {q0 q1 : IntKind} {w : World} {base : Nat} {e : TypeId} {g n cc : Nat} {xs : List Pr} (h : w.ownsRow base e 2 (.slice (some ⟨g, 0, none⟩) n cc) n (prC q0 q1 xs)) {i : Nat} {x : Pr} (hx : xs[i]? = some x) : w.cell? ⟨g, i * 2, none⟩ = some (.int q0 x.1) ∧ w.cell? ⟨g, i * 2 + 1, none⟩ = some (.int q1 x.2) := by
  have h0 := h.cells (g := g) rfl (i * 2 + 0) (.int q0 x.1) (by rw [prC_at xs i x 0 hx (by decide)]; rfl)
  have h1 := h.cells (g := g) rfl (i * 2 + 1) (.int q1 x.2) (by rw [prC_at xs i x 1 hx (by decide)]; rfl)
  rw [Addr.add_mid, Nat.zero_add] at h0 h1
  exact ⟨h0, h1⟩
/-- All places up to the k-th, in the list that is told. -/
structure AllB (w : World) (p b1 b2 : Nat) (S L : List Pl) (c g o k : Nat) (q0 q1 : IntKind) (f : Pl → Pr) (wr : World) : Prop where
  lm : LmP wr p b1 b2 S c
  nm : ∀ i x, L[i]? = some x → wr.cell? ⟨g, i * 2, none⟩ = some (.int q0 (f x).1) ∧ wr.cell? ⟨g, i * 2 + 1, none⟩ = some (.int q1 (f x).2)
  ob : Blk wr o (plC (L.take k ++ List.replicate (L.length - k) pl0)) 62
  le : w.heap.size ≤ o
  pl : p < w.heap.size
  ne : g ≠ o
  bel : RowKit.Below w.heap.size w wr
theorem AllB.below {w : World} {p b1 b2 : Nat} {S L : List Pl} {c g o k : Nat} {q0 q1 : IntKind} {f : Pl → Pr} {wr wr' : World} (h : AllB w p b1 b2 S L c g o k q0 q1 f wr) (hb : RowKit.Below wr.heap.size wr wr') : AllB w p b1 b2 S L c g o k q0 q1 f wr' :=
  ⟨h.lm.below hb, fun i x hx => ⟨(hb.cell (old_block (h.nm i x hx).1)).trans (h.nm i x hx).1, (hb.cell (old_block (h.nm i x hx).2)).trans (h.nm i x hx).2⟩, h.ob.below hb h.ob.lt, h.le, h.pl, h.ne, below_on h.bel hb⟩
theorem lfill_step (L : List Pl) (k : Nat) (x : Pl) (hx : L[k]? = some x) : (L.take k ++ List.replicate (L.length - k) pl0).set k x = L.take (k + 1) ++ List.replicate (L.length - (k + 1)) pl0 := by
  have hk : k < L.length := (List.getElem?_eq_some_iff.1 hx).1
  have hl : (L.take k).length = k := by rw [List.length_take]; omega
  have hx' : L[k] = x := (List.getElem?_eq_some_iff.1 hx).2
  rw [List.take_succ_eq_append_getElem hk, List.set_append_right _ _ (by omega), hl, Nat.sub_self, hx']
  obtain ⟨m, hm⟩ : ∃ m, L.length - k = m + 1 := ⟨L.length - k - 1, by omega⟩
  have hm' : L.length - (k + 1) = m := by omega
  rw [hm, hm', List.replicate_succ, List.set_cons_zero, List.append_assoc]; rfl
theorem AllB.room {w : World} {p b1 b2 : Nat} {S L : List Pl} {c g o k : Nat} {q0 q1 : IntKind} {f : Pl → Pr} {wr : World} (h : AllB w p b1 b2 S L c g o k q0 q1 f wr) (hk : k < L.length) :
    (wr.cell? ⟨o, k * 4, none⟩ = some (.int .u32 0) ∧ wr.cell? ⟨o, k * 4 + 1, none⟩ = some (.int .u64 0) ∧ wr.cell? ⟨o, k * 4 + 2, none⟩ = some (.int .i64 0) ∧ wr.cell? ⟨o, k * 4 + 3, none⟩ = some (.int .i64 0)) ∧ (wr.frozen? ⟨o, k * 4, none⟩ = false ∧ wr.frozen? ⟨o, k * 4 + 1, none⟩ = false ∧ wr.frozen? ⟨o, k * 4 + 2, none⟩ = false ∧ wr.frozen? ⟨o, k * 4 + 3, none⟩ = false) := by
  have hl : (L.take k).length = k := by rw [List.length_take]; omega
  have hx : (L.take k ++ List.replicate (L.length - k) pl0)[k]? = some pl0 := by
    rw [List.getElem?_append_right (by omega), hl, Nat.sub_self, List.getElem?_replicate, if_pos (by omega)]
  have hc := fun j (hj : j < 4) => (h.ob.cell (k * 4 + j)).trans (plC_at _ k pl0 j hx hj)
  exact ⟨⟨hc 0 (by decide), hc 1 (by decide), hc 2 (by decide), hc 3 (by decide)⟩, h.ob.frozen _, h.ob.frozen _, h.ob.frozen _, h.ob.frozen _⟩
theorem AllB.told {w : World} {p b1 b2 : Nat} {S L : List Pl} {c g o : Nat} {q0 q1 : IntKind} {f : Pl → Pr} {wr : World} (h : AllB w p b1 b2 S L c g o L.length q0 q1 f wr) (hl : L.length ≤ 1000000) : wr.ownsRow w.heap.size 62 4 (.slice (some ⟨o, 0, none⟩) L.length L.length) L.length (plC L) := by
  have hb := h.ob
  rw [List.take_length, Nat.sub_self, List.replicate_zero, List.append_nil] at hb
  refine ⟨plC_length L, .inr ⟨o, L.length, _, rfl, h.le, hb, Nat.le_refl _, by unfold maxLen; omega, by rw [List.size_toArray, plC_length], ?_⟩⟩
  rw [List.toList_toArray, List.take_of_length_le (by rw [plC_length]; omega)]
theorem AllB.step {w : World} {p b1 b2 : Nat} {S L : List Pl} {c g o k : Nat} {q0 q1 : IntKind} {f : Pl → Pr} {wr : World} (h : AllB w p b1 b2 S L c g o k q0 q1 f wr) {x : Pl} (hx : L[k]? = some x) :
    AllB w p b1 b2 S L c g o (k + 1) q0 q1 f ((((wr.setCell ⟨o, k * 4, none⟩ (.int .u32 x.1.1)).setCell ⟨o, k * 4 + 1, none⟩ (.int .u64 x.1.2)).setCell ⟨o, k * 4 + 2, none⟩ (.int .i64 x.2.1)).setCell ⟨o, k * 4 + 3, none⟩ (.int .i64 x.2.2)) := by
  have hk : k < L.length := (List.getElem?_eq_some_iff.1 hx).1
  have ho : Out (fun j => j = o) wr ((((wr.setCell ⟨o, k * 4, none⟩ (.int .u32 x.1.1)).setCell ⟨o, k * 4 + 1, none⟩ (.int .u64 x.1.2)).setCell ⟨o, k * 4 + 2, none⟩ (.int .i64 x.2.1)).setCell ⟨o, k * 4 + 3, none⟩ (.int .i64 x.2.2)) :=
    ((((Out.refl (fun j => j = o) wr).setCell (p := ⟨o, k * 4, none⟩) (.inl rfl) _).setCell (p := ⟨o, k * 4 + 1, none⟩) (.inl rfl) _).setCell (p := ⟨o, k * 4 + 2, none⟩) (.inl rfl) _).setCell (p := ⟨o, k * 4 + 3, none⟩) (.inl rfl) _
  have hb := (((h.ob.set (k * 4) (.int .u32 x.1.1)).set (k * 4 + 1) (.int .u64 x.1.2)).set (k * 4 + 2) (.int .i64 x.2.1)).set (k * 4 + 3) (.int .i64 x.2.2)
  rw [plC_set _ k x (by simp; omega), lfill_step L k x hx] at hb
  refine ⟨h.lm.out ho ?_, fun i y hy => ⟨ho.cell (h.nm i y hy).1 h.ne, ho.cell (h.nm i y hy).2 h.ne⟩, hb, h.le, h.pl, h.ne, ⟨h.bel.os, h.bel.tape, h.bel.output, Nat.le_trans h.bel.size ho.size, fun j hj => ?_⟩⟩
  · rintro j (rfl | rfl | rfl) e
    · have h1 := h.pl; have h2 := h.le; omega
    · exact (h.lm.m1.no_blk h.ob) e.symm
    · exact (h.lm.m2.no_blk h.ob) e.symm
  · rw [ho.block j (Nat.lt_of_lt_of_le hj h.bel.size) (by have := h.le; omega)]
    exact h.bel.block j hj
/-- The names that a range has met, in a row. -/
def AllA (w : World) (b1 r c : Nat) (D : DataW Value) (v : Value) (wr : World) : Prop :=
  ∃ left cnt xs g cc, wr.ranges Tryz.prog 124 heldR b1 r c D left cnt ∧ Coll kN D left xs ∧ v = .slice (some ⟨g, 0, none⟩) xs.length cc ∧ wr.ownsRow w.heap.size 124 2 (.slice (some ⟨g, 0, none⟩) xs.length cc) xs.length (prC .u32 .u64 xs) ∧ RowKit.Below w.heap.size w wr ∧ xs.length + cnt ≤ c
set_option maxHeartbeats 4000000 in
theorem mAll_of (p b1 b2 : Nat) (S : List Pl) (c : Nat) (w : World) (h : LmP w p b1 b2 S c) (hc : c < 100000) :
    Calls Tryz.prog 23 #[.pointer (some ⟨p, 0, none⟩)] w fun e w' => ∃ a n cc, e = .returned (.slice a n cc) ∧ w'.ownsRow w.heap.size 62 4 (.slice a n cc) n (plC S) ∧ RowKit.Below w.heap.size w w' := by
  obtain ⟨D, hown, hD⟩ := h.m1
  have c0 := h.hp.cell 0
  simp only [List.getElem?_cons_zero] at c0
  have HD : Hid (DIs kN D (fun n s => (n, s) ∈ S)) := hD
  have HG : Hid (LmP w p b1 b2 S c) := h
  have hb1 := h.m1.lt
  obtain ⟨i0, hi, hz0, hz1, hz2⟩ := info_parts Tryz.zero_name
  have hsz := hown.size_le
  obtain ⟨N, hN⟩ : ∃ N, N = Maps.size D := ⟨_, rfl⟩
  have hlen := fun ty => hown.len (t := 119) Tryz.underlying119 ty
  rw [← hN] at hsz hlen
  obtain ⟨w1, hmk, ho1, hg1⟩ := run_make_own (P := Tryz.prog) w w.heap.size 118 124 i0 _ 2 Tryz.underlying118 hi hz0 hz1 .i64 .i64 N (by rw [hz2]; omega) (by unfold maxLen; omega) (Nat.le_refl _)
  have c1 : w1.cell? ⟨p, 0, none⟩ = some (.map (some b1)) := by rw [World.cell?_of_block (hg1.block p h.hp.lt (by simp))]; exact c0
  have hown1 := hown.kept hg1 (by simp)
  have bel1 : RowKit.Below w.heap.size w w1 := (RowKit.Below.refl _ _).grown hg1 (Nat.le_refl _) (fun k hk => by cases hk)
  have HM : Hid (w1.ownsRow w.heap.size 124 2 (.slice (some ⟨w.heap.size, 0, none⟩) 0 N) 0 [] ∧ RowKit.Below w.heap.size w w1 ∧ Maps.size D ≤ c) := ⟨ho1, bel1, by omega⟩
  clear hD h ho1 hg1 bel1 hi hz0 hz1 hz2 hN
  go_enter Tryz.func23, Tryz.ntmps23
  go_wp2_with (first | (at_range; refine wpList_range_own _ rfl _ 119 rfl 124 129 okN.keyed Tryz.underlying119 _ b1 c D rfl hown1 ?_; intro w0 hrg0 hg0 hs0) | go_in)
  go_frame
  obtain ⟨r, hr⟩ : ∃ r, r = w1.heap.size := ⟨_, rfl⟩
  rw [← hr] at hrg0 hs0 ⊢
  have hrle : w.heap.size ≤ r := by rw [hr]; exact HM.out.2.1.size
  clear hr
  go_loopw [3, 4] (fun v _ wr => AllA w b1 r c D v wr) (fun _ _ wr => wr.rangeLeft b1 r)
  case atStart => exact ⟨_, _, [], _, _, hrg0, Coll.start kN D, rfl, HM.out.1.kept hg0 (Classical.em _), HM.out.2.1.grown hg0 HM.out.2.1.size (fun k hk => by cases hk), by have := HM.out.2.2; simpa using this⟩
  case round =>
    obtain ⟨left, cnt, xs, g, cc, hrg, hC, rfl, hO, hB, hle⟩ := hrel
    have HC : Hid (Coll kN D left xs ∧ RowKit.Below w.heap.size w wr ∧ wr.ownsRow w.heap.size 124 2 (.slice (some ⟨g, 0, none⟩) xs.length cc) xs.length (prC .u32 .u64 xs)) := ⟨hC, hB, hO⟩
    clear hC hB hO hrg0 hg0 hs0 hown1 c1 hmk hlen hsz
    go_wp2_with (first
      | (at_next; refine wpList_next_ranges _ rfl _ rfl 124 okN.keyed heldR (fun x : Pr => Value.agg #[.int .u32 x.1, .int .u64 x.2]) (fun v : Value => v) invKN invV b1 r c _ _ _ rfl hrg ?_ ?_)
      | go_in)
    · intro _ hl0
      have HL : Hid (xs.Perm (S.map (·.1))) := names_perm HG.out.good HC.out.1.1 (fun x => HC.out.1.all HD.out hl0 x)
      have C := sortN_of g cc xs.toArray wr (own_holds HC.out.2.2).1 (own_holds HC.out.2.2).2 (by simp; omega)
      simp only [List.size_toArray] at C
      go_wp2_with fail
      refine C.mono ?_
      rintro e w3 ⟨rfl, d', n', os, hp, hs, rfl⟩
      have hd := sorted_is hp hs HL.out (by rw [List.pairwise_map]; exact HG.out.good.up)
      have hlen := HL.out.length_eq
      rw [List.length_map] at hlen
      rw [hd]
      have hO3 := sort_own (n := n') (os := os) HC.out.2.2 (ts := S.map (·.1)) (by rw [List.length_map]; exact hlen.symm)
      have hG3 := grownBy_sortedK (q0 := .u32) (q1 := .u64) (w := wr) (g := g) (n := n') (os := os) (S.map (·.1)).toArray
      have hB3 := HC.out.2.1.grown hG3 HC.out.2.1.size (fun k hk => by cases hk; exact (HC.out.2.2.lt g rfl).1)
      generalize sortWorldK (prL .u32 .u64) 2 wr g 0 n' (S.map (·.1)).toArray os = W at hO3 hG3 hB3 ⊢
      rw [hlen] at hO3 ⊢
      have hSl : S.length ≤ c := by omega
      clear hp hs hd C hG3 hlen
      have HW : Hid (W.ownsRow w.heap.size 124 2 (.slice (some ⟨g, 0, none⟩) S.length cc) S.length (prC .u32 .u64 (S.map (·.1))) ∧ RowKit.Below w.heap.size w W) := ⟨hO3, hB3⟩
      have hmk := run_places S.length (by omega) W
      have HB : Hid (AllB w p b1 b2 S S c g W.heap.size 0 .u32 .u64 (·.1) (W.alloc (.cells (plC (List.replicate S.length pl0)).toArray 62))) := by
        have hbA : RowKit.Below W.heap.size W (W.alloc (.cells (plC (List.replicate S.length pl0)).toArray 62)) := (RowKit.Below.refl _ _).alloc (Nat.le_refl _) _
        refine ⟨(HG.out.below hB3).below hbA, fun i x hx => ?_, by simpa using Blk.new' rfl rfl, hB3.size, HG.out.hp.lt, ?_, below_on hB3 hbA⟩
        · have hx' : (S.map (·.1))[i]? = some x.1 := by rw [List.getElem?_map, hx]; rfl
          obtain ⟨d0, d1⟩ := pair_cells hO3 hx'
          exact ⟨(hbA.cell (old_block d0)).trans d0, (hbA.cell (old_block d1)).trans d1⟩
        · have := (hO3.lt g rfl).2; omega
      clear hO3 hB3 HW HC HM HD HL hown hrg hle
      go_wp2_with fail
      generalize W.alloc (.cells (plC (List.replicate S.length pl0)).toArray 62) = Y at HB ⊢
      generalize W.heap.size = o at HB ⊢
      go_loopw [6, 7, 34] (fun _ _ i wr => ∃ k : Nat, k ≤ S.length ∧ i = .int .i64 k ∧ AllB w p b1 b2 S S c g o k .u32 .u64 (·.1) wr) (fun _ _ i _ => S.length - (intOf i).toNat)
      case atStart => exact ⟨0, by omega, rfl, HB.out⟩
      case round =>
        rename_i wr0
        obtain ⟨k, hk, rfl, hA⟩ := hrel
        by_cases hlt : k < S.length
        · have hlt' : (k : Int) < S.length := by omega
          obtain ⟨x, hx⟩ : ∃ x, S[k]? = some x := ⟨_, List.getElem?_eq_getElem hlt⟩
          obtain ⟨n0, n1⟩ := hA.nm k x hx
          have hxm : (x.1, x.2) ∈ S := List.mem_of_getElem? hx
          have hget : getS S x.1 = some x.2 := (getS_some hA.lm.good).2 hxm
          have hf := hA.lm.good.fits x hxm
          have hV := hA.below ((RowKit.Below.refl _ _).alloc (Nat.le_refl _) (.cells #[.int .u32 x.1.1, .int .u64 x.1.2] 124))
          have m0 := hV.lm.hp.cell 0
          simp only [List.getElem?_cons_zero] at m0
          have hl := hV.lm.drew.lookN1 hf.1
          have hl' := hV.lm.lookN1 hf.1
          rw [hget] at hl hl'
          simp only [Option.getD_some] at hl hl'
          have HA : Hid (AllB w p b1 b2 S S c g o k .u32 .u64 (·.1) wr) := hA
          have HV : Hid (AllB w p b1 b2 S S c g o k .u32 .u64 (·.1) (wr.alloc (.cells #[.int .u32 x.1.1, .int .u64 x.1.2] 124))) := hV
          have HX : Hid (S[k]? = some x) := hx
          have C := fun X => mPlace_of x.1 x.2 X
          clear hA hV hx hxm hget hf
          go_wp2_with fail
          have np : p ≠ o := by have h1 := HA.out.pl; have h2 := HA.out.le; omega
          have nq : wr.heap.size ≠ o := by have h1 := HA.out.ob.lt; omega
          have k1 : (wr.alloc (.cells #[.int .u32 x.1.1, .int .u64 x.1.2] 124)).cell? ⟨wr.heap.size, 0, none⟩ = some (.int .u32 x.1.1) := by go_simp
          have k2 : (wr.alloc (.cells #[.int .u32 x.1.1, .int .u64 x.1.2] 124)).cell? ⟨wr.heap.size, 1, none⟩ = some (.int .u64 x.1.2) := by go_simp
          go_region_held3 (fun X => X.cell? ⟨p, 0, none⟩ = some (.map (some b1)) ∧ X.cell? ⟨wr.heap.size, 0, none⟩ = some (.int .u32 x.1.1) ∧ X.cell? ⟨wr.heap.size, 1, none⟩ = some (.int .u64 x.1.2)) (first | exact ⟨m0, k1, k2⟩ | exact ⟨j0, j1, j2⟩ | exact ⟨kept_set (kept_set (kept_set (kept_set j0 np) np) np) np, kept_set (kept_set (kept_set (kept_set j1 nq) nq) nq) nq, kept_set (kept_set (kept_set (kept_set j2 nq) nq) nq) nq⟩)
            ((go_simp; go_at_call 66; refine (C _).mono ?_; rintro e w4 ⟨rfl, hb4⟩; have hb5 : RowKit.Below (wr.alloc (.cells #[.int .u32 x.1.1, .int .u64 x.1.2] 124)).heap.size (wr.alloc (.cells #[.int .u32 x.1.1, .int .u64 x.1.2] 124)) w4 := ⟨hb4.os, hb4.tape, hb4.output, hb4.size, hb4.block⟩; have j0 := (hb5.cell (old_block m0)).trans m0; have j1 := (hb5.cell (old_block k1)).trans k1; have j2 := (hb5.cell (old_block k2)).trans k2; have hA4 := HV.out.below hb5; have H4 : Hid (AllB w p b1 b2 S S c g o k .u32 .u64 (·.1) w4) := hA4; obtain ⟨⟨x0, x1, x2, x3⟩, y0, y1, y2, y3⟩ := hA4.room hlt; clear hA4 hb4 hb5))
          all_goals (
            have HS : Hid (AllB w p b1 b2 S S c g o (k + 1) .u32 .u64 (·.1) ((((w4.setCell ⟨o, k * 4, none⟩ (.int .u32 x.1.1)).setCell ⟨o, k * 4 + 1, none⟩ (.int .u64 x.1.2)).setCell ⟨o, k * 4 + 2, none⟩ (.int .i64 x.2.1)).setCell ⟨o, k * 4 + 3, none⟩ (.int .i64 x.2.2))) := H4.out.step HX.out
            clear x0 x1 x2 x3 y0 y1 y2 y3 j0 j1 j2 H4
            go_wp2
            go_roundw
            case rel => exact ⟨k + 1, by omega, by go_num, HS.out⟩
            case measure => simp [intOf]; omega)
        · have hge : (S.length : Int) ≤ k := by omega
          have hkn : k = S.length := by omega
          have HA : Hid (AllB w p b1 b2 S S c g o S.length .u32 .u64 (·.1) wr) := by rw [← hkn]; exact hA
          clear hA hkn
          go_wp2
          go_ret
          exact ⟨_, _, _, rfl, HA.out.told (by omega), HA.out.bel⟩
    · intro xa xb v kl ya yb w2 cnt1 hkey hlx hv hat hrg1 hlt hg1 hs1 hen
      obtain ⟨x, hx0⟩ : ∃ x : Pr, x = (xa, xb) := ⟨_, rfl⟩
      obtain rfl : xa = x.1 := by rw [hx0]
      obtain rfl : xb = x.2 := by rw [hx0]
      clear hx0
      obtain ⟨hkx, rfl⟩ := keyN_of hkey
      obtain ⟨hC, hB, hO⟩ := HC.out
      have hB2 := hB.grown hg1 hB.size (fun k hk => by cases hk; exact hrle)
      have hO2 := (hO.kept hg1 (.inr (fun e => (row_ne_iter hO hrg).2 e.symm))).alloc (.cells #[.int .u32 x.1, .int .u64 x.2] 124)
      obtain ⟨g', cc', W', hrun, hO3, hgr⟩ := app_pair (q0 := .u32) (q1 := .u64) Tryz.underlying118 Tryz.zero_name rfl hO2 x (by omega) (by have := hB2.size; simp; omega) (w2.heap.size + 1) (by simp)
      have hr2 := hrg1.alloc (.cells #[.int .u32 x.1, .int .u64 x.2] 124)
      have hr3 := hr2.kept hgr (row_ne_iter hO2 hr2).1 (row_ne_iter hO2 hr2).2
      have hB3 : RowKit.Below w.heap.size w W' := (hB2.alloc hB2.size _).grown hgr (by have := hB2.size; simp; omega) (fun k hk => (hO2.lt k hk).1)
      have HA : Hid (AllA w b1 r c D (.slice (some ⟨g', 0, none⟩) (xs.length + 1) cc') W' ∧ W'.rangeLeft b1 r < wr.rangeLeft b1 r) := by
        refine ⟨⟨_, cnt1, xs ++ [x], g', cc', hr3, hC.step okN hkx hlx hat, by simp, by simpa using hO3, hB3, by simp; omega⟩, ?_⟩
        rw [hr3.left_eq, hrg.left_eq]; exact hlt
      clear hC hB hO hB2 hO2 hO3 hgr hr2 hr3 hB3 hkey hlx hv hat hrg1 hg1 hrg HC hs1
      go_wp2_with (first | (at_builtin; refine lwpList_append_run rfl _ _ 118 118 rfl _ _ rfl rfl _ _ hrun ?_) | go_in)
      go_roundw
      case rel => exact HA.out.1
      case measure => exact HA.out.2
end Go.Proofs.YtfcbcpjcmihooaaGreat

/- The document's map in the world; what one call of New, less and Drop does. -/
namespace Go.Proofs.YtfcbcpjcmihooaaGreat
open Go.RowKit
set_option linter.unusedVariables false
set_option maxRecDepth 4000

/-- The document's map behind r. -/
structure LmD (w : World) (r : Nat) (S : List Pl) : Prop where
  row : ∃ a n cc, Blk w r [.slice a n cc] 170 ∧ w.ownsRow 0 62 4 (.slice a n cc) n (plC S)
  good : Good S
/-- The same, the row in blocks from B on. -/
structure LmN (B : Nat) (w : World) (r : Nat) (S : List Pl) : Prop where
  row : ∃ a n cc, Blk w r [.slice a n cc] 170 ∧ w.ownsRow B 62 4 (.slice a n cc) n (plC S)
  good : Good S
theorem own_ne {w : World} {r : Nat} {L : List Value} {t e : TypeId} {size n B : Nat} {v : Value} {xs : List Value} (hb : Blk w r L t) (ho : w.ownsRow B e size v n xs) (hne : t ≠ e) : v.ownBlock ≠ some r := by
  intro h
  obtain ⟨cur, hc⟩ := own_at_block ho h
  unfold Blk at hb
  rw [hb] at hc
  cases hc
  exact hne rfl
theorem LmD.lt {w : World} {r : Nat} {S : List Pl} (h : LmD w r S) : r < w.heap.size := by obtain ⟨a, n, cc, hb, _⟩ := h.row; exact hb.lt
theorem LmD.out {O : Nat → Prop} {w w' : World} {r : Nat} {S : List Pl} (h : LmD w r S) (ho : Out O w w') (hn : ∀ g cur e fr, w.heap[g]? = some (.cells cur e fr) → ¬ O g) : LmD w' r S := by
  obtain ⟨a, n, cc, hb, hr⟩ := h.row
  exact ⟨⟨a, n, cc, ho.blk hb (hn _ _ _ _ hb), ho.own hr (fun g hg => by obtain ⟨cur, hc⟩ := own_at_block hr hg; exact hn _ _ _ _ hc)⟩, h.good⟩
theorem LmD.below {w w' : World} {r : Nat} {S : List Pl} (h : LmD w r S) (hb : Below w.heap.size w w') : LmD w' r S := h.out (below_out Non hb) (fun _ _ _ _ _ e => e)
/-- What the program's map does leaves the document's as it is. -/
theorem LmD.prog {w w' : World} {r p b1 b2 c : Nat} {S S' : List Pl} (h : LmD w r S) (hp : LmP w p b1 b2 S' c) (ho : Out (Two b1 b2) w w') : LmD w' r S := h.out ho (fun g cur e fr hg => by
  rintro (rfl | rfl)
  · obtain ⟨D, ⟨es, clock, hb', _⟩, _⟩ := hp.m1; rw [hb'] at hg; cases hg
  · obtain ⟨D, ⟨es, clock, hb', _⟩, _⟩ := hp.m2; rw [hb'] at hg; cases hg)
/-- .. and the other way. -/
theorem LmP.doc {w w' : World} {r p b1 b2 c : Nat} {S S' : List Pl} (hp : LmP w p b1 b2 S' c) (h : LmD w r S) (ho : Out (fun k => k = r) w w') : LmP w' p b1 b2 S' c := by
  obtain ⟨a, n, cc, hb, hr⟩ := h.row
  refine hp.out ho ?_
  rintro k (rfl | rfl | rfl) rfl
  · have h1 := hp.hp
    unfold Blk at h1 hb
    rw [h1] at hb
    cases hb
  · exact hp.m1.no_blk hb rfl
  · exact hp.m2.no_blk hb rfl
theorem dmNew_of (w : World) : Calls Tryz.prog 104 #[] w fun e w' => e = .returned (.pointer (some ⟨w.heap.size, 0, none⟩)) ∧ LmN w.heap.size w' w.heap.size [] ∧ Below w.heap.size w w' := by
  go_enter Tryz.func104, Tryz.ntmps104
  go_wp2
  go_ret
  exact ⟨rfl, ⟨⟨none, 0, 0, Blk.new' rfl rfl, ⟨rfl, .inl ⟨rfl, rfl⟩⟩⟩, good_nil⟩, (Below.refl _ _).alloc (Nat.le_refl _) _⟩
theorem dless_of (x y : Pl) (w : World) : Calls Tryz.prog 152 #[.agg #[.int .u32 x.1.1, .int .u64 x.1.2, .int .i64 x.2.1, .int .i64 x.2.2], .agg #[.int .u32 y.1.1, .int .u64 y.1.2, .int .i64 y.2.1, .int .i64 y.2.2]] w fun e w' => e = .returned (.bool (ltP x.1 y.1)) ∧ Below w.heap.size w w' := by
  have hL : ltP x.1 y.1 = if x.1.1 = y.1.1 then decide (x.1.2 < y.1.2) else decide (x.1.1 < y.1.1) := by
    unfold ltP
    by_cases h : x.1.1 = y.1.1
    · simp [h]
    · simp [h]
  have HL : Hid (ltP x.1 y.1 = if x.1.1 = y.1.1 then decide (x.1.2 < y.1.2) else decide (x.1.1 < y.1.1)) := hL
  clear hL
  by_cases h : x.1.1 = y.1.1
  · go_enter Tryz.func152, Tryz.ntmps152
    go_wp2
    go_ret
    refine ⟨?_, ((Below.refl _ _).alloc (Nat.le_refl _) _).alloc (by simp) _⟩
    rw [HL.out, if_pos h]; rfl
  · go_enter Tryz.func152, Tryz.ntmps152
    go_wp2
    go_ret
    refine ⟨?_, ((Below.refl _ _).alloc (Nat.le_refl _) _).alloc (by simp) _⟩
    rw [HL.out, if_neg h]; rfl
/-- One place more. -/
theorem lapp_place {W : World} {B : Nat} {a : Option Addr} {n cc : Nat} {xs : List Pl} (h : W.ownsRow B 62 4 (.slice a n cc) n (plC xs)) (x : Pl) (hn : n ≤ 100000) (hB : B ≤ W.heap.size) (q : Nat) (hq : W.heap.size = q) :
    ∃ g' cc' W', (Builtin.append_ #[46, 46] 46 #[.slice a n cc, .slice (some ⟨q, 0, none⟩) 1 1]).run Tryz.prog (W.alloc (.cells #[.int .u32 x.1.1, .int .u64 x.1.2, .int .i64 x.2.1, .int .i64 x.2.2] 62)) = .ok (.slice (some ⟨g', 0, none⟩) (n + 1) cc') W' ∧
      W'.ownsRow B 62 4 (.slice (some ⟨g', 0, none⟩) (n + 1) cc') (n + 1) (plC (xs ++ [x])) ∧ W.grownBy W' (Value.slice a n cc).ownBlock := by
  subst hq
  have hb : Blk (W.alloc (.cells #[.int .u32 x.1.1, .int .u64 x.1.2, .int .i64 x.2.1, .int .i64 x.2.2] 62)) W.heap.size (plL x) 62 := Blk.new' rfl rfl
  obtain ⟨v', W', h1, h2, h3, h4⟩ := run_app (ty := 46) Tryz.underlying46 Tryz.zero_place rfl (by decide) (by decide) (own_zero (h.alloc (.cells #[.int .u32 x.1.1, .int .u64 x.1.2, .int .i64 x.2.1, .int .i64 x.2.2] 62))) ⟨W.heap.size, 0, none⟩ 1 1 (plL x) rfl (fun j u hj => by rw [Addr.add_mid, Nat.zero_add, hb.cell]; exact hj) (plL_one x) (by omega)
  rw [plC_snoc] at h2
  rcases h2.2 with ⟨_, h0⟩ | ⟨g', cc', cur, rfl, hB', hh, r⟩
  · omega
  · refine ⟨g', cc', W', h1, own_base h2 (fun g hg => ?_), (World.grownBy_alloc W _ _).andThen h3 (fun j e => .inr e)⟩
    rcases h4 with h4 | h4
    · exact (h.lt g (by rw [← h4]; exact hg)).1
    · have := h4 g hg
      simp at this
      omega
theorem dmDrop_of (r : Nat) (S : List Pl) (n : Pr) (w : World) (h : LmD w r S) (hS : S.length ≤ 10000) :
    Calls Tryz.prog 184 #[.pointer (some ⟨r, 0, none⟩), .int .u32 n.1, .int .u64 n.2] w fun e w' => e = .returned (.bool (getS S n).isSome) ∧ LmN w.heap.size w' r (dropS S n) ∧ Out (fun k => k = r) w w' := by
  obtain ⟨a, m, cc, hb, hr⟩ := h.row
  have hm : S.length = m := (own_pl hr).1
  subst hm
  have HG : Hid (Good S) := h.good
  have HR : Hid (Blk w r [.slice a S.length cc] 170 ∧ w.ownsRow 0 62 4 (.slice a S.length cc) S.length (plC S)) := ⟨hb, hr⟩
  clear h hb hr
  go_enter Tryz.func184, Tryz.ntmps184
  go_wp2
  go_loopw [7, 8] (fun v i wr => ∃ (k : Nat) (b : Option Addr) (dd : Nat), k ≤ S.length ∧ i = .int .i64 k ∧ v = .slice b (dropS (S.take k) n).length dd ∧ wr.ownsRow w.heap.size 62 4 (.slice b (dropS (S.take k) n).length dd) (dropS (S.take k) n).length (plC (dropS (S.take k) n)) ∧ Below w.heap.size w wr) (fun _ i _ => S.length - (intOf i).toNat)
  case atStart => exact ⟨0, none, 0, by omega, rfl, rfl, ⟨rfl, .inl ⟨rfl, rfl⟩⟩, Below.refl _ _⟩
  case round =>
    obtain ⟨k, b, dd, hk, rfl, rfl, hO, hB⟩ := hrel
    have c0 := (HR.out.1.below hB HR.out.1.lt).cell 0
    simp only [List.getElem?_cons_zero] at c0
    by_cases hlt : k < S.length
    · have hlt' : (k : Int) < S.length := by omega
      obtain ⟨y, hy⟩ : ∃ y, S[k]? = some y := ⟨_, List.getElem?_eq_getElem hlt⟩
      obtain ⟨g, rfl, hc⟩ := (own_pl HR.out.2).2.resolve_left (by omega)
      obtain ⟨y0, y1, y2, y3⟩ := hc k y hy
      have y0 := (hB.cell (old_block y0)).trans y0
      have y1 := (hB.cell (old_block y1)).trans y1
      have y2 := (hB.cell (old_block y2)).trans y2
      have y3 := (hB.cell (old_block y3)).trans y3
      clear hc
      have hld : (dropS (S.take k) n).length ≤ k := by have := dropS_len (S.take k) n; rw [List.length_take] at this; omega
      have htk : S.take (k + 1) = S.take k ++ [y] := by rw [List.take_succ_eq_append_getElem hlt]; congr 2; exact (List.getElem?_eq_some_iff.1 hy).2
      by_cases hn : y.1 = n
      · have hdr : dropS (S.take (k + 1)) n = dropS (S.take k) n := by rw [htk]; unfold dropS; simp [List.filter_append, hn]
        have e1 : (y.1.1 != n.1) = false := by rw [hn]; simp
        have e2 : (y.1.2 != n.2) = false := by rw [hn]; simp
        have HO : Hid (wr.ownsRow w.heap.size 62 4 (.slice b (dropS (S.take k) n).length dd) (dropS (S.take k) n).length (plC (dropS (S.take k) n)) ∧ Below w.heap.size w wr ∧ dropS (S.take (k + 1)) n = dropS (S.take k) n) := ⟨hO, hB, hdr⟩
        clear hO hB hdr htk hn hy
        go_wp2
        go_roundw
        case rel => exact ⟨k + 1, b, dd, by omega, by go_num, by rw [HO.out.2.2], by rw [HO.out.2.2]; exact HO.out.1, HO.out.2.1⟩
        case measure => simp [intOf]; omega
      · have hdr : dropS (S.take (k + 1)) n = dropS (S.take k) n ++ [y] := by rw [htk]; unfold dropS; simp [List.filter_append, hn]
        by_cases ht : y.1.1 = n.1
        · have e1 : (y.1.1 != n.1) = false := by rw [ht]; simp
          have e2 : (y.1.2 != n.2) = true := by
            have := pr_ne.1 hn
            simp only [bne_iff_ne]
            omega
          clear ht
          have HO : Hid (Below w.heap.size w wr) := hB
          obtain ⟨g', cc', W', hrun, hO3, hgr⟩ := lapp_place hO y (by omega) hB.size wr.heap.size rfl
          have HA : Hid (dropS (S.take (k + 1)) n = dropS (S.take k) n ++ [y] ∧ W'.ownsRow w.heap.size 62 4 (.slice (some ⟨g', 0, none⟩) ((dropS (S.take k) n).length + 1) cc') ((dropS (S.take k) n).length + 1) (plC (dropS (S.take k) n ++ [y])) ∧ Below w.heap.size w W') := ⟨hdr, hO3, hB.grown hgr hB.size (fun j hj => (hO.lt j hj).1)⟩
          clear hO hB hdr htk hn hy hO3 hgr
          go_wp2_with (first | (at_builtin; refine lwpList_append_run rfl _ _ 46 46 rfl _ _ rfl rfl _ _ hrun ?_) | go_in)
          go_roundw
          case rel => exact ⟨k + 1, some ⟨g', 0, none⟩, cc', by omega, by go_num, by rw [HA.out.1]; simp, by rw [HA.out.1]; simpa using HA.out.2.1, HA.out.2.2⟩
          case measure => simp [intOf]; omega
        · have e1 : (y.1.1 != n.1) = true := by simpa using ht
          clear ht
          have HO : Hid (Below w.heap.size w wr) := hB
          obtain ⟨g', cc', W', hrun, hO3, hgr⟩ := lapp_place hO y (by omega) hB.size wr.heap.size rfl
          have HA : Hid (dropS (S.take (k + 1)) n = dropS (S.take k) n ++ [y] ∧ W'.ownsRow w.heap.size 62 4 (.slice (some ⟨g', 0, none⟩) ((dropS (S.take k) n).length + 1) cc') ((dropS (S.take k) n).length + 1) (plC (dropS (S.take k) n ++ [y])) ∧ Below w.heap.size w W') := ⟨hdr, hO3, hB.grown hgr hB.size (fun j hj => (hO.lt j hj).1)⟩
          clear hO hB hdr htk hn hy hO3 hgr
          go_wp2_with (first | (at_builtin; refine lwpList_append_run rfl _ _ 46 46 rfl _ _ rfl rfl _ _ hrun ?_) | go_in)
          go_roundw
          case rel => exact ⟨k + 1, some ⟨g', 0, none⟩, cc', by omega, by go_num, by rw [HA.out.1]; simp, by rw [HA.out.1]; simpa using HA.out.2.1, HA.out.2.2⟩
          case measure => simp [intOf]; omega
    · have hge : (S.length : Int) ≤ k := by omega
      have hkn : k = S.length := by omega
      rw [hkn, List.take_length] at hO
      have f0 := (HR.out.1.below hB HR.out.1.lt).frozen 0
      have hts : S.take k = S := by rw [hkn, List.take_length]
      rw [hts]
      have HO : Hid (LmN w.heap.size (wr.setCell ⟨r, 0, none⟩ (.slice b (dropS S n).length dd)) r (dropS S n) ∧ Out (fun k => k = r) w (wr.setCell ⟨r, 0, none⟩ (.slice b (dropS S n).length dd))) := by
        have hbr := HR.out.1.below hB HR.out.1.lt
        have hne := own_ne hbr hO (by decide)
        refine ⟨⟨⟨b, _, dd, hbr.set 0 _, ?_⟩, HG.out.drop n⟩, (below_out (fun k => k = r) hB).setCell (.inl rfl) _⟩
        have ho : Out (fun k => k = r) wr (wr.setCell ⟨r, 0, none⟩ (.slice b (dropS S n).length dd)) := (Out.refl (fun k => k = r) wr).setCell (p := ⟨r, 0, none⟩) (.inl rfl) _
        exact ho.own hO (fun g hg e => hne (by rw [hg, e]))
      have HW : Hid (decide ((dropS S n).length < S.length) = (getS S n).isSome) := drop_len S n
      clear hO hB hts hkn
      go_wp2
      go_ret
      refine ⟨?_, HO.out⟩
      rw [← HW.out]
      simp
/-! Places that are compared. -/
theorem eqlA (a b : Pr) (W : World) : (Go.binOp .eql 60 (.agg #[.int .i64 a.1, .int .i64 a.2]) (.agg #[.int .i64 b.1, .int .i64 b.2])).run Tryz.prog W = .ok (.bool (a == b)) W := by
  have h : (a == b) = (a.1 == b.1 && a.2 == b.2) := by obtain ⟨a1, a2⟩ := a; obtain ⟨b1, b2⟩ := b; rfl
  rw [h]
  by_cases h1 : a.1 = b.1
  · by_cases h2 : a.2 = b.2
    · go_simp
    · go_simp
  · go_simp
theorem neqA (a b : Pr) (W : World) : (Go.binOp .neq 60 (.agg #[.int .i64 a.1, .int .i64 a.2]) (.agg #[.int .i64 b.1, .int .i64 b.2])).run Tryz.prog W = .ok (.bool (a != b)) W := by
  have h : (a != b) = !(a.1 == b.1 && a.2 == b.2) := by obtain ⟨a1, a2⟩ := a; obtain ⟨b1, b2⟩ := b; rfl
  rw [h]
  by_cases h1 : a.1 = b.1
  · by_cases h2 : a.2 = b.2
    · go_simp
    · go_simp
  · go_simp
theorem eqlP (x y : Pl) (W : World) : (Go.binOp .eql 62 (.agg #[.int .u32 x.1.1, .int .u64 x.1.2, .int .i64 x.2.1, .int .i64 x.2.2]) (.agg #[.int .u32 y.1.1, .int .u64 y.1.2, .int .i64 y.2.1, .int .i64 y.2.2])).run Tryz.prog W = .ok (.bool (x == y)) W := by
  have h : (x == y) = ((x.1.1 == y.1.1 && x.1.2 == y.1.2) && (x.2.1 == y.2.1 && x.2.2 == y.2.2)) := by obtain ⟨⟨a1, a2⟩, a3, a4⟩ := x; obtain ⟨⟨b1, b2⟩, b3, b4⟩ := y; rfl
  rw [h]
  by_cases h1 : x.1.1 = y.1.1
  · by_cases h2 : x.1.2 = y.1.2
    · by_cases h3 : x.2.1 = y.2.1
      · by_cases h4 : x.2.2 = y.2.2
        · go_simp
        · go_simp
      · go_simp
    · go_simp
  · go_simp
theorem neqP (x y : Pl) (W : World) : (Go.binOp .neq 62 (.agg #[.int .u32 x.1.1, .int .u64 x.1.2, .int .i64 x.2.1, .int .i64 x.2.2]) (.agg #[.int .u32 y.1.1, .int .u64 y.1.2, .int .i64 y.2.1, .int .i64 y.2.2])).run Tryz.prog W = .ok (.bool (x != y)) W := by
  have h : (x != y) = !((x.1.1 == y.1.1 && x.1.2 == y.1.2) && (x.2.1 == y.2.1 && x.2.2 == y.2.2)) := by obtain ⟨⟨a1, a2⟩, a3, a4⟩ := x; obtain ⟨⟨b1, b2⟩, b3, b4⟩ := y; rfl
  rw [h]
  by_cases h1 : x.1.1 = y.1.1
  · by_cases h2 : x.1.2 = y.1.2
    · by_cases h3 : x.2.1 = y.2.1
      · by_cases h4 : x.2.2 = y.2.2
        · go_simp
        · go_simp
      · go_simp
    · go_simp
  · go_simp
end Go.Proofs.YtfcbcpjcmihooaaGreat

/- What one call of the document's Put does. -/
namespace Go.Proofs.YtfcbcpjcmihooaaGreat
open Go.RowKit
set_option linter.unusedVariables false
set_option maxRecDepth 4000

theorem putAll_step (x : Pl) (S : List Pl) (k : Nat) (y : Pl) (hy : S[k]? = some y) : putAll x (S.take (k + 1)) = putStep x (putAll x (S.take k)) y := by
  have hk : k < S.length := (List.getElem?_eq_some_iff.1 hy).1
  have e : S.take (k + 1) = S.take k ++ [y] := by rw [List.take_succ_eq_append_getElem hk]; congr 2; exact (List.getElem?_eq_some_iff.1 hy).2
  unfold putAll
  rw [e, List.foldl_append]; rfl
theorem putAll_len (x : Pl) : ∀ (S : List Pl) (s : List Pl × Bool), (S.foldl (putStep x) s).1.length ≤ s.1.length + 2 * S.length
  | [], s => by simp
  | y :: r, s => by
    have := putAll_len x r (putStep x s y)
    have h2 : (putStep x s y).1.length ≤ s.1.length + 2 := by
      unfold putStep
      simp only [List.length_append]
      have a1 : (if (!s.2 && (ltP x.1 y.1 || y.1 == x.1)) = true then [x] else []).length ≤ 1 := by split <;> simp
      have a2 : (if (!(y.1 == x.1) && (y.2 != x.2)) = true then [y] else []).length ≤ 1 := by split <;> simp
      omega
    rw [List.foldl_cons, List.length_cons]
    omega
def plA (x : Pl) : Array Value := #[.int .u32 x.1.1, .int .u64 x.1.2, .int .i64 x.2.1, .int .i64 x.2.2]
/-- What stands in the round: the place that is put, what was gathered. -/
structure PutR (w : World) (x : Pl) (b : Option Addr) (dd : Nat) (o : List Pl) (wr : World) : Prop where
  bx : Blk wr w.heap.size (plL x) 62
  row : wr.ownsRow (w.heap.size + 1) 62 4 (.slice b o.length dd) o.length (plC o)
  bel : Below w.heap.size w wr
theorem PutR.below {w : World} {x : Pl} {b : Option Addr} {dd : Nat} {o : List Pl} {wr wr' : World} (h : PutR w x b dd o wr) (hb : Below wr.heap.size wr wr') : PutR w x b dd o wr' :=
  ⟨h.bx.below hb h.bx.lt, (below_out Non hb).own h.row (fun _ _ e => e), below_on h.bel hb⟩
theorem PutR.size {w : World} {x : Pl} {b : Option Addr} {dd : Nat} {o : List Pl} {wr : World} (h : PutR w x b dd o wr) : w.heap.size + 1 ≤ wr.heap.size := h.bx.lt
/-- One more is gathered. -/
theorem PutR.app {w : World} {x : Pl} {b : Option Addr} {dd : Nat} {o : List Pl} {wr : World} (h : PutR w x b dd o wr) (y : Pl) (hn : o.length ≤ 100000) :
    ∃ g cc W, (Builtin.append_ #[46, 46] 46 #[.slice b o.length dd, .slice (some ⟨wr.heap.size, 0, none⟩) 1 1]).run Tryz.prog (wr.alloc (.cells #[.int .u32 y.1.1, .int .u64 y.1.2, .int .i64 y.2.1, .int .i64 y.2.2] 62)) = .ok (.slice (some ⟨g, 0, none⟩) (o.length + 1) cc) W ∧
      PutR w x (some ⟨g, 0, none⟩) cc (o ++ [y]) W ∧ Out (fun k => w.heap.size + 1 ≤ k ∧ (Value.slice b o.length dd).ownBlock = some k) wr W := by
  obtain ⟨g, cc, W, h1, h2, h3⟩ := lapp_place h.row y hn h.size wr.heap.size rfl
  have ho : Out (fun k => w.heap.size + 1 ≤ k ∧ (Value.slice b o.length dd).ownBlock = some k) wr W := ⟨h3.os, h3.tape, h3.output, h3.size, fun k hk hn' => h3.block k hk (fun e => hn' ⟨(h.row.lt k e.symm).1, e.symm⟩)⟩
  refine ⟨g, cc, W, h1, ⟨ho.blk h.bx (fun e => by omega), by simpa using h2, ?_⟩, ho⟩
  exact ⟨h3.os.trans h.bel.os, h3.tape.trans h.bel.tape, h3.output.trans h.bel.output, Nat.le_trans h.bel.size ho.size, fun j hj => (ho.block j (Nat.lt_of_lt_of_le hj h.bel.size) (fun e => by omega)).trans (h.bel.block j hj)⟩
theorem Blk.four {w : World} {g : Nat} {x : Pl} (h : Blk w g (plL x) 62) : w.cell? ⟨g, 0, none⟩ = some (.int .u32 x.1.1) ∧ w.cell? ⟨g, 1, none⟩ = some (.int .u64 x.1.2) ∧ w.cell? ⟨g, 2, none⟩ = some (.int .i64 x.2.1) ∧ w.cell? ⟨g, 3, none⟩ = some (.int .i64 x.2.2) :=
  ⟨h.cell 0, h.cell 1, h.cell 2, h.cell 3⟩
/-- What was gathered is kept. -/
theorem PutR.done {w : World} {x : Pl} {b : Option Addr} {dd r : Nat} {o : List Pl} {wr : World} {v : Value} (h : PutR w x b dd o wr) (hb : Blk w r [v] 170) (hg : Good o) : LmN w.heap.size (wr.setCell ⟨r, 0, none⟩ (.slice b o.length dd)) r o ∧ Out (fun k => k = r) w (wr.setCell ⟨r, 0, none⟩ (.slice b o.length dd)) := by
  have hbr := hb.below h.bel hb.lt
  have hne := own_ne hbr h.row (by decide)
  refine ⟨⟨⟨b, _, dd, hbr.set 0 _, ?_⟩, hg⟩, (below_out (fun k => k = r) h.bel).setCell (.inl rfl) _⟩
  have ho : Out (fun k => k = r) wr (wr.setCell ⟨r, 0, none⟩ (.slice b o.length dd)) := (Out.refl (fun k => k = r) wr).setCell (p := ⟨r, 0, none⟩) (.inl rfl) _
  exact ho.own (own_base (own_zero h.row) (fun g hg => by have := (h.row.lt g hg).1; omega)) (fun g hg e => hne (by rw [hg, e]))
set_option maxHeartbeats 8000000 in
theorem dmPut_of (r : Nat) (S : List Pl) (x : Pl) (w : World) (h : LmD w r S) (hx : FitsP x) (hS : S.length ≤ 10000) :
    Calls Tryz.prog 105 #[.pointer (some ⟨r, 0, none⟩), .agg #[.int .u32 x.1.1, .int .u64 x.1.2, .int .i64 x.2.1, .int .i64 x.2.2]] w fun e w' => e = .returned (.tuple #[]) ∧ LmN w.heap.size w' r (putS S x) ∧ Out (fun k => k = r) w w' := by
  obtain ⟨a, m, cc, hb, hr⟩ := h.row
  have hm : S.length = m := (own_pl hr).1
  subst hm
  have HG : Hid (Good S ∧ FitsP x) := ⟨h.good, hx⟩
  have HR : Hid (Blk w r [.slice a S.length cc] 170 ∧ w.ownsRow 0 62 4 (.slice a S.length cc) S.length (plC S)) := ⟨hb, hr⟩
  clear h hb hr hx
  go_enter Tryz.func105, Tryz.ntmps105
  go_wp2
  go_loopw [4, 5, 6, 7, 8, 9] (fun v d i _ _ _ wr => ∃ (k : Nat) (b : Option Addr) (dd : Nat) (o : List Pl) (d' : Bool), k ≤ S.length ∧ i = .int .i64 k ∧ d = .bool d' ∧ v = .slice b o.length dd ∧ PutR w x b dd o wr ∧ putAll x (S.take k) = (o, d')) (fun _ _ i _ _ _ _ => S.length - (intOf i).toNat)
  case atStart => exact ⟨0, none, 0, [], false, by omega, rfl, rfl, rfl, ⟨Blk.new' rfl rfl, ⟨rfl, .inl ⟨rfl, rfl⟩⟩, (Below.refl _ _).alloc (Nat.le_refl _) _⟩, rfl⟩
  case round =>
    obtain ⟨k, b, dd, o, d, hk, rfl, rfl, rfl, hP, hod⟩ := hrel
    have c0 := (HR.out.1.below hP.bel HR.out.1.lt).cell 0
    have c0' := fun o => (HR.out.1.below (hP.bel.alloc hP.bel.size o) HR.out.1.lt).cell 0
    simp only [List.getElem?_cons_zero] at c0 c0'
    have hol : o.length ≤ 2 * k := by
      have := putAll_len x (S.take k) ([], false)
      rw [List.length_take] at this
      unfold putAll at hod
      rw [hod] at this
      simp at this
      omega
    by_cases hlt : k < S.length
    · have hlt' : (k : Int) < S.length := by omega
      obtain ⟨y, hy⟩ : ∃ y, S[k]? = some y := ⟨_, List.getElem?_eq_getElem hlt⟩
      have HST : Hid (putAll x (S.take (k + 1)) = putStep x (o, d) y) := by rw [← hod]; exact putAll_step x S k y hy
      obtain ⟨g, rfl, hc⟩ := (own_pl HR.out.2).2.resolve_left (by omega)
      obtain ⟨y0, y1, y2, y3⟩ := hc k y hy
      have y0 := (hP.bel.cell (old_block y0)).trans y0
      have y1 := (hP.bel.cell (old_block y1)).trans y1
      have y2 := (hP.bel.cell (old_block y2)).trans y2
      have y3 := (hP.bel.cell (old_block y3)).trans y3
      have HY : Hid (Blk (wr.alloc (.cells #[.int .u32 y.1.1, .int .u64 y.1.2, .int .i64 y.2.1, .int .i64 y.2.2] 62)) wr.heap.size (plL y) 62) := Blk.new' rfl rfl
      have HP : Hid (PutR w x b dd o (wr.alloc (.cells #[.int .u32 y.1.1, .int .u64 y.1.2, .int .i64 y.2.1, .int .i64 y.2.2] 62))) := hP.below ((Below.refl _ _).alloc (Nat.le_refl _) _)
      have HQ : Hid (PutR w x b dd o wr) := hP
      obtain ⟨x0, x1, x2, x3⟩ := HP.out.bx.four
      have C := dless_of x y (wr.alloc (.cells #[.int .u32 y.1.1, .int .u64 y.1.2, .int .i64 y.2.1, .int .i64 y.2.2] 62))
      clear hc hP hy
      clear hod
      cases d with
      | false =>
        by_cases hsm : y.1 = x.1
        · have e1 : (y.1.1 == x.1.1) = true := by rw [hsm]; simp
          have e2 : (y.1.2 == x.1.2) = true := by rw [hsm]; simp
          have hl : ltP x.1 y.1 = false := by rw [hsm]; exact ltP_irrefl _
          rw [hl] at C
          have HL : Hid (ltP x.1 y.1 = false) := hl
          have HE : Hid ((y.1 == x.1) = true) := by show (y.1 == x.1) = true; simp [hsm]
          have HT : Hid (True) := trivial
          clear hsm hl
          go_wp2_with fail
          refine C.mono ?_
          rintro e w5 ⟨rfl, hb5⟩
          have hP5 := HP.out.below hb5
          have hY5 := HY.out.below hb5 HY.out.lt
          obtain ⟨x0, x1, x2, x3⟩ := hP5.bx.four
          obtain ⟨y0, y1, y2, y3⟩ := hY5.four
          obtain ⟨g1, d1, W1, hr1, hP6, ho1⟩ := hP5.app x (by omega)
          have hY6 := ho1.blk hY5 (fun e => by have := (HQ.out.row.lt _ e.2).2; omega)
          obtain ⟨z0, z1, z2, z3⟩ := hP6.bx.four
          obtain ⟨v0, v1, v2, v3⟩ := hY6.four
          have HF : Hid (PutR w x (some ⟨g1, 0, none⟩) d1 (o ++ [x]) W1) := hP6
          clear hP5 hY5 hb5 hP6 hY6 ho1
          go_wp2_with (first | (at_builtin; refine lwpList_append_run rfl _ _ 46 46 rfl _ _ rfl rfl _ _ hr1 ?_; clear hr1) | go_in)
          go_roundw
          case rel =>
            have hs : putAll x (S.take (k + 1)) = ((o ++ [x]), true) := by rw [HST.out]; simp [putStep, HL.out, HE.out]
            exact ⟨k + 1, (some ⟨g1, 0, none⟩), d1, (o ++ [x]), true, by omega, by go_num, rfl, by simp, HF.out, hs⟩
          case measure => simp [intOf]; omega
        · have hne := pr_ne.1 hsm
          have HE : Hid ((y.1 == x.1) = false) := by show (y.1 == x.1) = false; simpa using hsm
          by_cases ht : y.1.1 = x.1.1
          · have e1 : (y.1.1 == x.1.1) = true := by rw [ht]; simp
            have e2 : (y.1.2 == x.1.2) = false := by simp only [beq_eq_false_iff_ne]; omega
            clear ht hsm hne
            cases hl : ltP x.1 y.1 with
            | false =>
              rw [hl] at C
              have HL : Hid (ltP x.1 y.1 = false) := hl
              clear hl
              by_cases hat : y.2 = x.2
              · have hab : (y.2 != x.2) = false := by simp [hat]
                have hq := fun W => neqA y.2 x.2 W
                rw [hab] at hq
                have HT : Hid ((y.2 != x.2) = false) := hab
                clear hab
                clear hat
                go_wp2_with fail
                refine C.mono ?_
                rintro e w5 ⟨rfl, hb5⟩
                have hP5 := HP.out.below hb5
                have hY5 := HY.out.below hb5 HY.out.lt
                obtain ⟨x0, x1, x2, x3⟩ := hP5.bx.four
                obtain ⟨y0, y1, y2, y3⟩ := hY5.four
                have HF : Hid (PutR w x b dd o w5) := hP5
                clear hP5 hY5 hb5
                go_wp2
                go_roundw
                case rel =>
                  have hs : putAll x (S.take (k + 1)) = (o, false) := by rw [HST.out]; simp [putStep, HL.out, HE.out, HT.out]
                  exact ⟨k + 1, b, dd, o, false, by omega, by go_num, rfl, by simp, HF.out, hs⟩
                case measure => simp [intOf]; omega
              · have hab : (y.2 != x.2) = true := by simpa using hat
                have hq := fun W => neqA y.2 x.2 W
                rw [hab] at hq
                have HT : Hid ((y.2 != x.2) = true) := hab
                clear hab
                clear hat
                go_wp2_with fail
                refine C.mono ?_
                rintro e w5 ⟨rfl, hb5⟩
                have hP5 := HP.out.below hb5
                have hY5 := HY.out.below hb5 HY.out.lt
                obtain ⟨x0, x1, x2, x3⟩ := hP5.bx.four
                obtain ⟨y0, y1, y2, y3⟩ := hY5.four
                obtain ⟨g2, d2, W2, hr2, hP7, ho2⟩ := hP5.app y (by omega)
                have HF : Hid (PutR w x (some ⟨g2, 0, none⟩) d2 (o ++ [y]) W2) := hP7
                clear hP5 hY5 hb5 hP7 ho2
                go_wp2_with (first | (at_builtin; refine lwpList_append_run rfl _ _ 46 46 rfl _ _ rfl rfl _ _ hr2 ?_; clear hr2) | go_in)
                go_roundw
                case rel =>
                  have hs : putAll x (S.take (k + 1)) = ((o ++ [y]), false) := by rw [HST.out]; simp [putStep, HL.out, HE.out, HT.out]
                  exact ⟨k + 1, (some ⟨g2, 0, none⟩), d2, (o ++ [y]), false, by omega, by go_num, rfl, by simp, HF.out, hs⟩
                case measure => simp [intOf]; omega
            | true =>
              rw [hl] at C
              have HL : Hid (ltP x.1 y.1 = true) := hl
              clear hl
              by_cases hat : y.2 = x.2
              · have hab : (y.2 != x.2) = false := by simp [hat]
                have hq := fun W => neqA y.2 x.2 W
                rw [hab] at hq
                have HT : Hid ((y.2 != x.2) = false) := hab
                clear hab
                clear hat
                go_wp2_with fail
                refine C.mono ?_
                rintro e w5 ⟨rfl, hb5⟩
                have hP5 := HP.out.below hb5
                have hY5 := HY.out.below hb5 HY.out.lt
                obtain ⟨x0, x1, x2, x3⟩ := hP5.bx.four
                obtain ⟨y0, y1, y2, y3⟩ := hY5.four
                obtain ⟨g1, d1, W1, hr1, hP6, ho1⟩ := hP5.app x (by omega)
                have hY6 := ho1.blk hY5 (fun e => by have := (HQ.out.row.lt _ e.2).2; omega)
                obtain ⟨z0, z1, z2, z3⟩ := hP6.bx.four
                obtain ⟨v0, v1, v2, v3⟩ := hY6.four
                have HF : Hid (PutR w x (some ⟨g1, 0, none⟩) d1 (o ++ [x]) W1) := hP6
                clear hP5 hY5 hb5 hP6 hY6 ho1
                go_wp2_with (first | (at_builtin; refine lwpList_append_run rfl _ _ 46 46 rfl _ _ rfl rfl _ _ hr1 ?_; clear hr1) | go_in)
                go_roundw
                case rel =>
                  have hs : putAll x (S.take (k + 1)) = ((o ++ [x]), true) := by rw [HST.out]; simp [putStep, HL.out, HE.out, HT.out]
                  exact ⟨k + 1, (some ⟨g1, 0, none⟩), d1, (o ++ [x]), true, by omega, by go_num, rfl, by simp, HF.out, hs⟩
                case measure => simp [intOf]; omega
              · have hab : (y.2 != x.2) = true := by simpa using hat
                have hq := fun W => neqA y.2 x.2 W
                rw [hab] at hq
                have HT : Hid ((y.2 != x.2) = true) := hab
                clear hab
                clear hat
                go_wp2_with fail
                refine C.mono ?_
                rintro e w5 ⟨rfl, hb5⟩
                have hP5 := HP.out.below hb5
                have hY5 := HY.out.below hb5 HY.out.lt
                obtain ⟨x0, x1, x2, x3⟩ := hP5.bx.four
                obtain ⟨y0, y1, y2, y3⟩ := hY5.four
                obtain ⟨g1, d1, W1, hr1, hP6, ho1⟩ := hP5.app x (by omega)
                have hY6 := ho1.blk hY5 (fun e => by have := (HQ.out.row.lt _ e.2).2; omega)
                obtain ⟨z0, z1, z2, z3⟩ := hP6.bx.four
                obtain ⟨v0, v1, v2, v3⟩ := hY6.four
                obtain ⟨g2, d2, W2, hr2, hP7, ho2⟩ := hP6.app y (by simp; omega)
                simp only [List.length_append, List.length_cons, List.length_nil, Nat.zero_add] at hr2
                have HF : Hid (PutR w x (some ⟨g2, 0, none⟩) d2 (o ++ [x] ++ [y]) W2) := hP7
                clear hP5 hY5 hb5 hP6 hY6 ho1 hP7 ho2
                go_wp2_with (first | (at_builtin; refine lwpList_append_run rfl _ _ 46 46 rfl _ _ rfl rfl _ _ hr1 ?_; clear hr1) | (at_builtin; refine lwpList_append_run rfl _ _ 46 46 rfl _ _ rfl rfl _ _ hr2 ?_; clear hr2) | go_in)
                go_roundw
                case rel =>
                  have hs : putAll x (S.take (k + 1)) = ((o ++ [x] ++ [y]), true) := by rw [HST.out]; simp [putStep, HL.out, HE.out, HT.out]
                  exact ⟨k + 1, (some ⟨g2, 0, none⟩), d2, (o ++ [x] ++ [y]), true, by omega, by go_num, rfl, by simp, HF.out, hs⟩
                case measure => simp [intOf]; omega
          · have e1 : (y.1.1 == x.1.1) = false := by simpa using ht
            clear ht hsm hne
            cases hl : ltP x.1 y.1 with
            | false =>
              rw [hl] at C
              have HL : Hid (ltP x.1 y.1 = false) := hl
              clear hl
              by_cases hat : y.2 = x.2
              · have hab : (y.2 != x.2) = false := by simp [hat]
                have hq := fun W => neqA y.2 x.2 W
                rw [hab] at hq
                have HT : Hid ((y.2 != x.2) = false) := hab
                clear hab
                clear hat
                go_wp2_with fail
                refine C.mono ?_
                rintro e w5 ⟨rfl, hb5⟩
                have hP5 := HP.out.below hb5
                have hY5 := HY.out.below hb5 HY.out.lt
                obtain ⟨x0, x1, x2, x3⟩ := hP5.bx.four
                obtain ⟨y0, y1, y2, y3⟩ := hY5.four
                have HF : Hid (PutR w x b dd o w5) := hP5
                clear hP5 hY5 hb5
                go_wp2
                go_roundw
                case rel =>
                  have hs : putAll x (S.take (k + 1)) = (o, false) := by rw [HST.out]; simp [putStep, HL.out, HE.out, HT.out]
                  exact ⟨k + 1, b, dd, o, false, by omega, by go_num, rfl, by simp, HF.out, hs⟩
                case measure => simp [intOf]; omega
              · have hab : (y.2 != x.2) = true := by simpa using hat
                have hq := fun W => neqA y.2 x.2 W
                rw [hab] at hq
                have HT : Hid ((y.2 != x.2) = true) := hab
                clear hab
                clear hat
                go_wp2_with fail
                refine C.mono ?_
                rintro e w5 ⟨rfl, hb5⟩
                have hP5 := HP.out.below hb5
                have hY5 := HY.out.below hb5 HY.out.lt
                obtain ⟨x0, x1, x2, x3⟩ := hP5.bx.four
                obtain ⟨y0, y1, y2, y3⟩ := hY5.four
                obtain ⟨g2, d2, W2, hr2, hP7, ho2⟩ := hP5.app y (by omega)
                have HF : Hid (PutR w x (some ⟨g2, 0, none⟩) d2 (o ++ [y]) W2) := hP7
                clear hP5 hY5 hb5 hP7 ho2
                go_wp2_with (first | (at_builtin; refine lwpList_append_run rfl _ _ 46 46 rfl _ _ rfl rfl _ _ hr2 ?_; clear hr2) | go_in)
                go_roundw
                case rel =>
                  have hs : putAll x (S.take (k + 1)) = ((o ++ [y]), false) := by rw [HST.out]; simp [putStep, HL.out, HE.out, HT.out]
                  exact ⟨k + 1, (some ⟨g2, 0, none⟩), d2, (o ++ [y]), false, by omega, by go_num, rfl, by simp, HF.out, hs⟩
                case measure => simp [intOf]; omega
            | true =>
              rw [hl] at C
              have HL : Hid (ltP x.1 y.1 = true) := hl
              clear hl
              by_cases hat : y.2 = x.2
              · have hab : (y.2 != x.2) = false := by simp [hat]
                have hq := fun W => neqA y.2 x.2 W
                rw [hab] at hq
                have HT : Hid ((y.2 != x.2) = false) := hab
                clear hab
                clear hat
                go_wp2_with fail
                refine C.mono ?_
                rintro e w5 ⟨rfl, hb5⟩
                have hP5 := HP.out.below hb5
                have hY5 := HY.out.below hb5 HY.out.lt
                obtain ⟨x0, x1, x2, x3⟩ := hP5.bx.four
                obtain ⟨y0, y1, y2, y3⟩ := hY5.four
                obtain ⟨g1, d1, W1, hr1, hP6, ho1⟩ := hP5.app x (by omega)
                have hY6 := ho1.blk hY5 (fun e => by have := (HQ.out.row.lt _ e.2).2; omega)
                obtain ⟨z0, z1, z2, z3⟩ := hP6.bx.four
                obtain ⟨v0, v1, v2, v3⟩ := hY6.four
                have HF : Hid (PutR w x (some ⟨g1, 0, none⟩) d1 (o ++ [x]) W1) := hP6
                clear hP5 hY5 hb5 hP6 hY6 ho1
                go_wp2_with (first | (at_builtin; refine lwpList_append_run rfl _ _ 46 46 rfl _ _ rfl rfl _ _ hr1 ?_; clear hr1) | go_in)
                go_roundw
                case rel =>
                  have hs : putAll x (S.take (k + 1)) = ((o ++ [x]), true) := by rw [HST.out]; simp [putStep, HL.out, HE.out, HT.out]
                  exact ⟨k + 1, (some ⟨g1, 0, none⟩), d1, (o ++ [x]), true, by omega, by go_num, rfl, by simp, HF.out, hs⟩
                case measure => simp [intOf]; omega
              · have hab : (y.2 != x.2) = true := by simpa using hat
                have hq := fun W => neqA y.2 x.2 W
                rw [hab] at hq
                have HT : Hid ((y.2 != x.2) = true) := hab
                clear hab
                clear hat
                go_wp2_with fail
                refine C.mono ?_
                rintro e w5 ⟨rfl, hb5⟩
                have hP5 := HP.out.below hb5
                have hY5 := HY.out.below hb5 HY.out.lt
                obtain ⟨x0, x1, x2, x3⟩ := hP5.bx.four
                obtain ⟨y0, y1, y2, y3⟩ := hY5.four
                obtain ⟨g1, d1, W1, hr1, hP6, ho1⟩ := hP5.app x (by omega)
                have hY6 := ho1.blk hY5 (fun e => by have := (HQ.out.row.lt _ e.2).2; omega)
                obtain ⟨z0, z1, z2, z3⟩ := hP6.bx.four
                obtain ⟨v0, v1, v2, v3⟩ := hY6.four
                obtain ⟨g2, d2, W2, hr2, hP7, ho2⟩ := hP6.app y (by simp; omega)
                simp only [List.length_append, List.length_cons, List.length_nil, Nat.zero_add] at hr2
                have HF : Hid (PutR w x (some ⟨g2, 0, none⟩) d2 (o ++ [x] ++ [y]) W2) := hP7
                clear hP5 hY5 hb5 hP6 hY6 ho1 hP7 ho2
                go_wp2_with (first | (at_builtin; refine lwpList_append_run rfl _ _ 46 46 rfl _ _ rfl rfl _ _ hr1 ?_; clear hr1) | (at_builtin; refine lwpList_append_run rfl _ _ 46 46 rfl _ _ rfl rfl _ _ hr2 ?_; clear hr2) | go_in)
                go_roundw
                case rel =>
                  have hs : putAll x (S.take (k + 1)) = ((o ++ [x] ++ [y]), true) := by rw [HST.out]; simp [putStep, HL.out, HE.out, HT.out]
                  exact ⟨k + 1, (some ⟨g2, 0, none⟩), d2, (o ++ [x] ++ [y]), true, by omega, by go_num, rfl, by simp, HF.out, hs⟩
                case measure => simp [intOf]; omega
      | true =>
        by_cases hsm : y.1 = x.1
        · have e1 : (y.1.1 == x.1.1) = true := by rw [hsm]; simp
          have e2 : (y.1.2 == x.1.2) = true := by rw [hsm]; simp
          have hl : ltP x.1 y.1 = false := by rw [hsm]; exact ltP_irrefl _
          rw [hl] at C
          have HL : Hid (ltP x.1 y.1 = false) := hl
          have HE : Hid ((y.1 == x.1) = true) := by show (y.1 == x.1) = true; simp [hsm]
          have HT : Hid (True) := trivial
          clear hsm hl
          go_wp2_with fail
          refine C.mono ?_
          rintro e w5 ⟨rfl, hb5⟩
          have hP5 := HP.out.below hb5
          have hY5 := HY.out.below hb5 HY.out.lt
          obtain ⟨x0, x1, x2, x3⟩ := hP5.bx.four
          obtain ⟨y0, y1, y2, y3⟩ := hY5.four
          have HF : Hid (PutR w x b dd o w5) := hP5
          clear hP5 hY5 hb5
          go_wp2
          go_roundw
          case rel =>
            have hs : putAll x (S.take (k + 1)) = (o, true) := by rw [HST.out]; simp [putStep, HL.out, HE.out]
            exact ⟨k + 1, b, dd, o, true, by omega, by go_num, rfl, by simp, HF.out, hs⟩
          case measure => simp [intOf]; omega
        · have hne := pr_ne.1 hsm
          have HE : Hid ((y.1 == x.1) = false) := by show (y.1 == x.1) = false; simpa using hsm
          by_cases ht : y.1.1 = x.1.1
          · have e1 : (y.1.1 == x.1.1) = true := by rw [ht]; simp
            have e2 : (y.1.2 == x.1.2) = false := by simp only [beq_eq_false_iff_ne]; omega
            clear ht hsm hne
            cases hl : ltP x.1 y.1 with
            | false =>
              rw [hl] at C
              have HL : Hid (ltP x.1 y.1 = false) := hl
              clear hl
              by_cases hat : y.2 = x.2
              · have hab : (y.2 != x.2) = false := by simp [hat]
                have hq := fun W => neqA y.2 x.2 W
                rw [hab] at hq
                have HT : Hid ((y.2 != x.2) = false) := hab
                clear hab
                clear hat
                go_wp2_with fail
                refine C.mono ?_
                rintro e w5 ⟨rfl, hb5⟩
                have hP5 := HP.out.below hb5
                have hY5 := HY.out.below hb5 HY.out.lt
                obtain ⟨x0, x1, x2, x3⟩ := hP5.bx.four
                obtain ⟨y0, y1, y2, y3⟩ := hY5.four
                have HF : Hid (PutR w x b dd o w5) := hP5
                clear hP5 hY5 hb5
                go_wp2
                go_roundw
                case rel =>
                  have hs : putAll x (S.take (k + 1)) = (o, true) := by rw [HST.out]; simp [putStep, HE.out, HT.out]
                  exact ⟨k + 1, b, dd, o, true, by omega, by go_num, rfl, by simp, HF.out, hs⟩
                case measure => simp [intOf]; omega
              · have hab : (y.2 != x.2) = true := by simpa using hat
                have hq := fun W => neqA y.2 x.2 W
                rw [hab] at hq
                have HT : Hid ((y.2 != x.2) = true) := hab
                clear hab
                clear hat
                go_wp2_with fail
                refine C.mono ?_
                rintro e w5 ⟨rfl, hb5⟩
                have hP5 := HP.out.below hb5
                have hY5 := HY.out.below hb5 HY.out.lt
                obtain ⟨x0, x1, x2, x3⟩ := hP5.bx.four
                obtain ⟨y0, y1, y2, y3⟩ := hY5.four
                obtain ⟨g2, d2, W2, hr2, hP7, ho2⟩ := hP5.app y (by omega)
                have HF : Hid (PutR w x (some ⟨g2, 0, none⟩) d2 (o ++ [y]) W2) := hP7
                clear hP5 hY5 hb5 hP7 ho2
                go_wp2_with (first | (at_builtin; refine lwpList_append_run rfl _ _ 46 46 rfl _ _ rfl rfl _ _ hr2 ?_; clear hr2) | go_in)
                go_roundw
                case rel =>
                  have hs : putAll x (S.take (k + 1)) = ((o ++ [y]), true) := by rw [HST.out]; simp [putStep, HE.out, HT.out]
                  exact ⟨k + 1, (some ⟨g2, 0, none⟩), d2, (o ++ [y]), true, by omega, by go_num, rfl, by simp, HF.out, hs⟩
                case measure => simp [intOf]; omega
            | true =>
              rw [hl] at C
              have HL : Hid (ltP x.1 y.1 = true) := hl
              clear hl
              by_cases hat : y.2 = x.2
              · have hab : (y.2 != x.2) = false := by simp [hat]
                have hq := fun W => neqA y.2 x.2 W
                rw [hab] at hq
                have HT : Hid ((y.2 != x.2) = false) := hab
                clear hab
                clear hat
                go_wp2_with fail
                refine C.mono ?_
                rintro e w5 ⟨rfl, hb5⟩
                have hP5 := HP.out.below hb5
                have hY5 := HY.out.below hb5 HY.out.lt
                obtain ⟨x0, x1, x2, x3⟩ := hP5.bx.four
                obtain ⟨y0, y1, y2, y3⟩ := hY5.four
                have HF : Hid (PutR w x b dd o w5) := hP5
                clear hP5 hY5 hb5
                go_wp2
                go_roundw
                case rel =>
                  have hs : putAll x (S.take (k + 1)) = (o, true) := by rw [HST.out]; simp [putStep, HE.out, HT.out]
                  exact ⟨k + 1, b, dd, o, true, by omega, by go_num, rfl, by simp, HF.out, hs⟩
                case measure => simp [intOf]; omega
              · have hab : (y.2 != x.2) = true := by simpa using hat
                have hq := fun W => neqA y.2 x.2 W
                rw [hab] at hq
                have HT : Hid ((y.2 != x.2) = true) := hab
                clear hab
                clear hat
                go_wp2_with fail
                refine C.mono ?_
                rintro e w5 ⟨rfl, hb5⟩
                have hP5 := HP.out.below hb5
                have hY5 := HY.out.below hb5 HY.out.lt
                obtain ⟨x0, x1, x2, x3⟩ := hP5.bx.four
                obtain ⟨y0, y1, y2, y3⟩ := hY5.four
                obtain ⟨g2, d2, W2, hr2, hP7, ho2⟩ := hP5.app y (by omega)
                have HF : Hid (PutR w x (some ⟨g2, 0, none⟩) d2 (o ++ [y]) W2) := hP7
                clear hP5 hY5 hb5 hP7 ho2
                go_wp2_with (first | (at_builtin; refine lwpList_append_run rfl _ _ 46 46 rfl _ _ rfl rfl _ _ hr2 ?_; clear hr2) | go_in)
                go_roundw
                case rel =>
                  have hs : putAll x (S.take (k + 1)) = ((o ++ [y]), true) := by rw [HST.out]; simp [putStep, HE.out, HT.out]
                  exact ⟨k + 1, (some ⟨g2, 0, none⟩), d2, (o ++ [y]), true, by omega, by go_num, rfl, by simp, HF.out, hs⟩
                case measure => simp [intOf]; omega
          · have e1 : (y.1.1 == x.1.1) = false := by simpa using ht
            clear ht hsm hne
            cases hl : ltP x.1 y.1 with
            | false =>
              rw [hl] at C
              have HL : Hid (ltP x.1 y.1 = false) := hl
              clear hl
              by_cases hat : y.2 = x.2
              · have hab : (y.2 != x.2) = false := by simp [hat]
                have hq := fun W => neqA y.2 x.2 W
                rw [hab] at hq
                have HT : Hid ((y.2 != x.2) = false) := hab
                clear hab
                clear hat
                go_wp2_with fail
                refine C.mono ?_
                rintro e w5 ⟨rfl, hb5⟩
                have hP5 := HP.out.below hb5
                have hY5 := HY.out.below hb5 HY.out.lt
                obtain ⟨x0, x1, x2, x3⟩ := hP5.bx.four
                obtain ⟨y0, y1, y2, y3⟩ := hY5.four
                have HF : Hid (PutR w x b dd o w5) := hP5
                clear hP5 hY5 hb5
                go_wp2
                go_roundw
                case rel =>
                  have hs : putAll x (S.take (k + 1)) = (o, true) := by rw [HST.out]; simp [putStep, HE.out, HT.out]
                  exact ⟨k + 1, b, dd, o, true, by omega, by go_num, rfl, by simp, HF.out, hs⟩
                case measure => simp [intOf]; omega
              · have hab : (y.2 != x.2) = true := by simpa using hat
                have hq := fun W => neqA y.2 x.2 W
                rw [hab] at hq
                have HT : Hid ((y.2 != x.2) = true) := hab
                clear hab
                clear hat
                go_wp2_with fail
                refine C.mono ?_
                rintro e w5 ⟨rfl, hb5⟩
                have hP5 := HP.out.below hb5
                have hY5 := HY.out.below hb5 HY.out.lt
                obtain ⟨x0, x1, x2, x3⟩ := hP5.bx.four
                obtain ⟨y0, y1, y2, y3⟩ := hY5.four
                obtain ⟨g2, d2, W2, hr2, hP7, ho2⟩ := hP5.app y (by omega)
                have HF : Hid (PutR w x (some ⟨g2, 0, none⟩) d2 (o ++ [y]) W2) := hP7
                clear hP5 hY5 hb5 hP7 ho2
                go_wp2_with (first | (at_builtin; refine lwpList_append_run rfl _ _ 46 46 rfl _ _ rfl rfl _ _ hr2 ?_; clear hr2) | go_in)
                go_roundw
                case rel =>
                  have hs : putAll x (S.take (k + 1)) = ((o ++ [y]), true) := by rw [HST.out]; simp [putStep, HE.out, HT.out]
                  exact ⟨k + 1, (some ⟨g2, 0, none⟩), d2, (o ++ [y]), true, by omega, by go_num, rfl, by simp, HF.out, hs⟩
                case measure => simp [intOf]; omega
            | true =>
              rw [hl] at C
              have HL : Hid (ltP x.1 y.1 = true) := hl
              clear hl
              by_cases hat : y.2 = x.2
              · have hab : (y.2 != x.2) = false := by simp [hat]
                have hq := fun W => neqA y.2 x.2 W
                rw [hab] at hq
                have HT : Hid ((y.2 != x.2) = false) := hab
                clear hab
                clear hat
                go_wp2_with fail
                refine C.mono ?_
                rintro e w5 ⟨rfl, hb5⟩
                have hP5 := HP.out.below hb5
                have hY5 := HY.out.below hb5 HY.out.lt
                obtain ⟨x0, x1, x2, x3⟩ := hP5.bx.four
                obtain ⟨y0, y1, y2, y3⟩ := hY5.four
                have HF : Hid (PutR w x b dd o w5) := hP5
                clear hP5 hY5 hb5
                go_wp2
                go_roundw
                case rel =>
                  have hs : putAll x (S.take (k + 1)) = (o, true) := by rw [HST.out]; simp [putStep, HE.out, HT.out]
                  exact ⟨k + 1, b, dd, o, true, by omega, by go_num, rfl, by simp, HF.out, hs⟩
                case measure => simp [intOf]; omega
              · have hab : (y.2 != x.2) = true := by simpa using hat
                have hq := fun W => neqA y.2 x.2 W
                rw [hab] at hq
                have HT : Hid ((y.2 != x.2) = true) := hab
                clear hab
                clear hat
                go_wp2_with fail
                refine C.mono ?_
                rintro e w5 ⟨rfl, hb5⟩
                have hP5 := HP.out.below hb5
                have hY5 := HY.out.below hb5 HY.out.lt
                obtain ⟨x0, x1, x2, x3⟩ := hP5.bx.four
                obtain ⟨y0, y1, y2, y3⟩ := hY5.four
                obtain ⟨g2, d2, W2, hr2, hP7, ho2⟩ := hP5.app y (by omega)
                have HF : Hid (PutR w x (some ⟨g2, 0, none⟩) d2 (o ++ [y]) W2) := hP7
                clear hP5 hY5 hb5 hP7 ho2
                go_wp2_with (first | (at_builtin; refine lwpList_append_run rfl _ _ 46 46 rfl _ _ rfl rfl _ _ hr2 ?_; clear hr2) | go_in)
                go_roundw
                case rel =>
                  have hs : putAll x (S.take (k + 1)) = ((o ++ [y]), true) := by rw [HST.out]; simp [putStep, HE.out, HT.out]
                  exact ⟨k + 1, (some ⟨g2, 0, none⟩), d2, (o ++ [y]), true, by omega, by go_num, rfl, by simp, HF.out, hs⟩
                case measure => simp [intOf]; omega
    · have hge : (S.length : Int) ≤ k := by omega
      have hkn : k = S.length := by omega
      have hput : putS S x = if d then o else o ++ [x] := by
        unfold putS
        rw [hkn, List.take_length] at hod
        rw [hod]
      have hgd := HG.out.1.put HG.out.2
      rw [hput] at hgd
      cases d with
      | true =>
        rw [if_pos rfl] at hgd hput
        have HPS : Hid (putS S x = o) := hput
        have HF : Hid (LmN w.heap.size (wr.setCell ⟨r, 0, none⟩ (.slice b o.length dd)) r o ∧ Out (fun k => k = r) w (wr.setCell ⟨r, 0, none⟩ (.slice b o.length dd))) := hP.done HR.out.1 hgd
        have f0 := (HR.out.1.below hP.bel HR.out.1.lt).frozen 0
        clear hP hod hput hgd hkn c0'
        go_wp2
        first | go_end0 | refine bodyPost_ret (results_none rfl _ _ _) rfl ?_
        exact ⟨rfl, by rw [HPS.out]; exact HF.out⟩
      | false =>
        rw [if_neg (by simp)] at hgd hput
        have HPS : Hid (putS S x = o ++ [x]) := hput
        obtain ⟨x0, x1, x2, x3⟩ := hP.bx.four
        obtain ⟨g2, d2, W2, hr2, hP7, ho2⟩ := hP.app x (by omega)
        have hbr := HR.out.1.below hP7.bel HR.out.1.lt
        have f0 := hbr.frozen 0
        have q0 := hbr.cell 0
        simp only [List.getElem?_cons_zero] at q0
        have hF := hP7.done HR.out.1 hgd
        rw [List.length_append] at hF
        simp only [List.length_cons, List.length_nil, Nat.zero_add] at hF
        have HF : Hid (LmN w.heap.size (W2.setCell ⟨r, 0, none⟩ (.slice (some ⟨g2, 0, none⟩) (o.length + 1) d2)) r (o ++ [x]) ∧ Out (fun k => k = r) w (W2.setCell ⟨r, 0, none⟩ (.slice (some ⟨g2, 0, none⟩) (o.length + 1) d2))) := hF
        clear hP hod hput hgd hkn c0' hP7 ho2 hF hbr
        go_wp2_with (first | (at_builtin; refine lwpList_append_run rfl _ _ 46 46 rfl _ _ rfl rfl _ _ hr2 ?_; clear hr2) | go_in)
        first | go_end0 | refine bodyPost_ret (results_none rfl _ _ _) rfl ?_
        exact ⟨rfl, by rw [HPS.out]; exact HF.out⟩
end Go.Proofs.YtfcbcpjcmihooaaGreat

/- The document's store in memory, and what one call on a part of it leaves of it. -/
namespace Go.Proofs.YtfcbcpjcmihooaaGreat
open Go.RowKit
set_option linter.unusedVariables false
set_option maxRecDepth 4000

/-- The document's map behind r, its row in a block of M. -/
def LmE (M : Nat → Prop) (w : World) (r : Nat) (S : List Pl) : Prop :=
  (∃ a n cc, Blk w r [.slice a n cc] 170 ∧ w.ownsRow 0 62 4 (.slice a n cc) n (plC S) ∧ ∀ g, (Value.slice a n cc).ownBlock = some g → M g) ∧ Good S
theorem LmE.d {M : Nat → Prop} {w : World} {r : Nat} {S : List Pl} (h : LmE M w r S) : LmD w r S := by
  obtain ⟨⟨a, n, cc, h1, h2, _⟩, hg⟩ := h
  exact ⟨⟨a, n, cc, h1, h2⟩, hg⟩
theorem LmE.lt {M : Nat → Prop} {w : World} {r : Nat} {S : List Pl} (h : LmE M w r S) : r < w.heap.size := h.d.lt
theorem LmE.out {M O : Nat → Prop} {w w' : World} {r : Nat} {S : List Pl} (h : LmE M w r S) (ho : Out O w w') (hr : ¬ O r) (hM : ∀ x, M x → ¬ O x) : LmE M w' r S := by
  obtain ⟨⟨a, n, cc, h1, h2, h3⟩, hg⟩ := h
  exact ⟨⟨a, n, cc, ho.blk h1 hr, ho.own h2 (fun g hg => hM g (h3 g hg)), h3⟩, hg⟩
theorem LmN.e {B : Nat} {w : World} {r : Nat} {S : List Pl} (h : LmN B w r S) : LmE (fun x => B ≤ x ∧ x < w.heap.size) w r S := by
  obtain ⟨⟨a, n, cc, h1, h2⟩, hg⟩ := h
  exact ⟨⟨a, n, cc, h1, own_zero h2, fun g hg => h2.lt g hg⟩, hg⟩
theorem LmE.mono {M M' : Nat → Prop} {w : World} {r : Nat} {S : List Pl} (h : LmE M w r S) (hM : ∀ x, M x → M' x) : LmE M' w r S := by
  obtain ⟨⟨a, n, cc, h1, h2, h3⟩, hg⟩ := h
  exact ⟨⟨a, n, cc, h1, h2, fun g hg => hM g (h3 g hg)⟩, hg⟩

structure Rs where
  ps : Nat
  pd : Nat
  pg : Nat
  gg : Nat
  gc : Nat
  pm : Nat
  lb : Nat
def Rs.has (k : Rs) (x : Nat) : Prop := x = k.ps ∨ x = k.pg ∨ x = k.gg ∨ x = k.pm ∨ x = k.lb
def sdL (k : Rs) (q : Int) (n : Nat) (o : Int) : List Value := [.pointer (some ⟨k.pd, 0, none⟩), .pointer (some ⟨k.pg, 0, none⟩), .pointer (some ⟨k.pm, 0, none⟩), .int .u64 q, .slice (some ⟨k.lb, 0, none⟩) n n, .int .i64 o]
structure SdV (D M : Nat → Prop) (W : World) (k : Rs) (st : St) : Prop where
  hp : Blk W k.ps (sdL k st.q st.la.length st.o) 102
  dv : Dv 142 D W k.pd st.s st.zs
  sg : SegR W k.pg k.gg k.gc st.s st.L
  mp : LmE M W k.pm st.S
  hl : Blk W k.lb (kInts .u64 st.la) 40
  wf : Wf st.s st.zs
  fq : FitsU st.q
  len : st.L.length = st.zs.length ∧ st.la.length = st.zs.length
  lt : ∀ x, D x ∨ M x → x < W.heap.size
  nd : ∀ x, k.has x → ¬ D x ∧ ¬ M x
  dm : ∀ x, D x → ¬ M x
  ap : [k.ps, k.pg, k.gg, k.pm, k.lb].Nodup
def SdO (D M : Nat → Prop) (k : Rs) : Nat → Prop := fun x => D x ∨ M x ∨ k.has x
/-- A store of the document's somewhere in R and in new memory. -/
def Sd (R : Nat → Prop) (V : World) (k : Rs) (st : St) (W : World) : Prop := ∃ D M, SdV D M W k st ∧ (∀ x, SdO D M k x → R x ∨ V.heap.size ≤ x) ∧ Out R V W
section
variable {D M R : Nat → Prop} {V W W' : World} {k : Rs} {st st' : St}
theorem nodup5 {a b c d e : Nat} (h : [a, b, c, d, e].Nodup) : (a ≠ b ∧ a ≠ c ∧ a ≠ d ∧ a ≠ e) ∧ (b ≠ c ∧ b ≠ d ∧ b ≠ e) ∧ (c ≠ d ∧ c ≠ e) ∧ d ≠ e := by
  simpa [List.nodup_cons, not_or, and_assoc] using h
theorem SdV.kin (h : SdV D M W k st) : ∀ x, k.has x → x < W.heap.size := by
  rintro x (rfl | rfl | rfl | rfl | rfl)
  · exact h.hp.lt
  · exact h.sg.lt.1
  · exact h.sg.lt.2
  · exact h.mp.lt
  · exact h.hl.lt
theorem SdV.all (h : SdV D M W k st) : ∀ x, SdO D M k x → x < W.heap.size := by
  rintro x (hx | hx | hx)
  · exact h.lt x (.inl hx)
  · exact h.lt x (.inr hx)
  · exact h.kin x hx
theorem SdV.out {O : Nat → Prop} (h : SdV D M W k st) (ho : Out O W W') (hO : ∀ x, SdO D M k x → ¬ O x) : SdV D M W' k st := by
  have hk : ∀ x, k.has x → ¬ O x := fun x hx => hO x (.inr (.inr hx))
  refine ⟨ho.blk h.hp (hk _ (.inl rfl)), ?_, h.sg.out ho (hk _ (.inr (.inl rfl))) (hk _ (.inr (.inr (.inl rfl)))), h.mp.out ho (hk _ (.inr (.inr (.inr (.inl rfl))))) (fun x hx => hO x (.inr (.inl hx))), ho.blk h.hl (hk _ (.inr (.inr (.inr (.inr rfl))))), h.wf, h.fq, h.len, fun x hx => Nat.lt_of_lt_of_le (h.lt x hx) ho.size, h.nd, h.dm, h.ap⟩
  obtain ⟨g, cc, vs, hv⟩ := h.dv
  exact ⟨g, cc, vs, hv.out ho (fun x hx => hO x (.inl hx))⟩
theorem SdV.under (h : SdV D M W k st) (hb : Below W.heap.size W W') : SdV D M W' k st := h.out (below_out Non hb) (fun _ _ e => e)
theorem Sd.start (h : SdV D M W k st) : Sd (SdO D M k) W k st W := ⟨D, M, h, fun _ h => .inl h, Out.refl _ _⟩
theorem Sd.under (h : Sd R V k st W) (hb : Below W.heap.size W W') : Sd R V k st W' := by
  obtain ⟨D, M, h1, h2, h3⟩ := h
  exact ⟨D, M, h1.under hb, h2, h3.under hb⟩
theorem Sd.next (hR : ∀ x, SdO D M k x → R x ∨ V.heap.size ≤ x) (ho : Out R V W) (h : Sd (SdO D M k) W k st' W') : Sd R V k st' W' := by
  obtain ⟨D', M', h1, h2, h3⟩ := h
  refine ⟨D', M', h1, fun x hx => ?_, ho.trans h3 (fun j hj => hR j hj)⟩
  rcases h2 x hx with h | h
  · exact hR x h
  · have := ho.size; exact .inr (by omega)
theorem Sd.from {W1 : World} (hb : Below V.heap.size V W1) (h : Sd R W1 k st W) : Sd R V k st W := by
  obtain ⟨D, M, h1, h2, h3⟩ := h
  refine ⟨D, M, h1, fun x hx => ?_, (below_out _ hb).trans h3 (fun j e => .inl e)⟩
  rcases h2 x hx with h | h
  · exact .inl h
  · have := hb.size; exact .inr (by omega)
theorem SdV.dvstep {zs' : List Zn} (h : SdV D M W k st) (hs : Step 142 D W k.pd st.s zs' W') (hw : Wf st.s zs') : Sd (SdO D M k) W k { st with zs := zs' } W' := by
  obtain ⟨hd, ho⟩ := hs
  have hlen : zs'.length = st.zs.length := by have := hw.len; have := h.wf.len; omega
  have hn : ∀ x, k.has x → ¬ D x := fun x hx => (h.nd x hx).1
  refine ⟨Ext D W W', M, ⟨ho.blk h.hp (hn _ (.inl rfl)), hd, h.sg.out ho (hn _ (.inr (.inl rfl))) (hn _ (.inr (.inr (.inl rfl)))), h.mp.out ho (hn _ (.inr (.inr (.inr (.inl rfl))))) (fun x hx hd => h.dm x hd hx), ho.blk h.hl (hn _ (.inr (.inr (.inr (.inr rfl))))), hw, h.fq, by rw [hlen]; exact h.len, ?_, ?_, ?_, h.ap⟩, ?_, ho.mono (fun j e _ => .inl e)⟩
  · rintro x ((hx | hx) | hx)
    · exact Nat.lt_of_lt_of_le (h.lt x (.inl hx)) ho.size
    · exact hx.2
    · exact Nat.lt_of_lt_of_le (h.lt x (.inr hx)) ho.size
  · intro x hx
    refine ⟨?_, (h.nd x hx).2⟩
    rintro (hd | hd)
    · exact hn x hx hd
    · have := h.kin x hx; omega
  · rintro x (hx | hx) hm
    · exact h.dm x hx hm
    · have := h.lt x (.inr hm); omega
  · rintro x ((hx | hx) | hx | hx)
    · exact .inl (.inl hx)
    · exact .inr hx.1
    · exact .inl (.inr (.inl hx))
    · exact .inl (.inr (.inr hx))
theorem SdV.sgstep {L' : List Int} (h : SdV D M W k st) (hs : SegR W' k.pg k.gg k.gc st.s L') (ho : Out (fun j => j = k.gg) W W') (hl : L'.length = st.L.length) : Sd (SdO D M k) W k { st with L := L' } W' := by
  obtain ⟨a1, a2, a3, a4⟩ := nodup5 h.ap
  have hg := h.nd k.gg (.inr (.inr (.inl rfl)))
  refine ⟨D, M, ⟨ho.blk h.hp (by omega), ?_, hs, h.mp.out ho (by omega) (fun x hx e => by subst e; exact hg.2 hx), ho.blk h.hl (by omega), h.wf, h.fq, by rw [hl]; exact h.len, fun x hx => Nat.lt_of_lt_of_le (h.lt x hx) ho.size, h.nd, h.dm, h.ap⟩, fun x hx => .inl hx, ho.mono (fun j e _ => .inr (.inr (.inr (.inr (.inl e)))))⟩
  obtain ⟨g, cc, vs, hv⟩ := h.dv
  exact ⟨g, cc, vs, hv.out ho (fun x hx e => by subst e; exact hg.1 hx)⟩
theorem SdV.mpstep {S' : List Pl} (h : SdV D M W k st) (hs : LmN W.heap.size W' k.pm S') (ho : Out (fun j => j = k.pm) W W') : Sd (SdO D M k) W k { st with S := S' } W' := by
  obtain ⟨a1, a2, a3, a4⟩ := nodup5 h.ap
  have hg := h.nd k.pm (.inr (.inr (.inr (.inl rfl))))
  refine ⟨D, fun x => W.heap.size ≤ x ∧ x < W'.heap.size, ⟨ho.blk h.hp (by omega), ?_, h.sg.out ho (by omega) (by omega), hs.e, ho.blk h.hl (by omega), h.wf, h.fq, h.len, ?_, ?_, ?_, h.ap⟩, ?_, ho.mono (fun j e _ => .inr (.inr (.inr (.inr (.inr (.inl e))))))⟩
  · obtain ⟨g, cc, vs, hv⟩ := h.dv
    exact ⟨g, cc, vs, hv.out ho (fun x hx e => by subst e; exact hg.1 hx)⟩
  · rintro x (hx | hx)
    · exact Nat.lt_of_lt_of_le (h.lt x (.inl hx)) ho.size
    · exact hx.2
  · intro x hx
    refine ⟨(h.nd x hx).1, fun hm => ?_⟩
    have := h.kin x hx; omega
  · intro x hx hm
    have := h.lt x (.inl hx); omega
  · rintro x (hx | hx | hx)
    · exact .inl (.inl hx)
    · exact .inr hx.1
    · exact .inl (.inr (.inr hx))
theorem SdV.setP (h : SdV D M W k st) {q o : Int} {i : Nat} {v : Value} (hL : (sdL k st.q st.la.length st.o).set i v = sdL k q st.la.length o) (hq : FitsU q) : Sd (SdO D M k) W k { st with q := q, o := o } (W.setCell ⟨k.ps, i, none⟩ v) := by
  obtain ⟨a1, a2, a3, a4⟩ := nodup5 h.ap
  have n1 : ¬ k.pg = k.ps := fun e => a1.1 e.symm
  have n2 : ¬ k.gg = k.ps := fun e => a1.2.1 e.symm
  have n3 : ¬ k.pm = k.ps := fun e => a1.2.2.1 e.symm
  have n4 : ¬ k.lb = k.ps := fun e => a1.2.2.2 e.symm
  have hg := h.nd k.ps (.inl rfl)
  have ho : Out (fun j => j = k.ps) W (W.setCell ⟨k.ps, i, none⟩ v) := out_one W k.ps i v
  have hp := h.hp.set i v
  rw [hL] at hp
  clear hL a1 a2 a3 a4
  generalize W.setCell ⟨k.ps, i, none⟩ v = W' at ho hp ⊢
  have dv : Dv 142 D W' k.pd st.s st.zs := by
    obtain ⟨g, cc, vs, hv⟩ := h.dv
    exact ⟨g, cc, vs, hv.out ho (fun x hx e => by subst e; exact hg.1 hx)⟩
  have hlt : ∀ x, D x ∨ M x → x < W'.heap.size := fun x hx => Nat.lt_of_lt_of_le (h.lt x hx) ho.size
  exact ⟨D, M, ⟨hp, dv, h.sg.out ho n1 n2, h.mp.out ho n3 (fun x hx e => by subst e; exact hg.2 hx), ho.blk h.hl n4, h.wf, hq, h.len, hlt, h.nd, h.dm, h.ap⟩, fun x hx => .inl hx, ho.mono (fun j e _ => .inr (.inr (.inl e)))⟩
theorem SdV.setLa (h : SdV D M W k st) (i : Nat) (b : Int) : Sd (SdO D M k) W k { st with la := st.la.set i b } (W.setCell ⟨k.lb, i, none⟩ (.int .u64 b)) := by
  obtain ⟨a1, a2, a3, a4⟩ := nodup5 h.ap
  have hg := h.nd k.lb (.inr (.inr (.inr (.inr rfl))))
  have ho : Out (fun j => j = k.lb) W (W.setCell ⟨k.lb, i, none⟩ (.int .u64 b)) := out_one W k.lb i _
  have hp := h.hl.set i (.int .u64 b)
  rw [kInts_set] at hp
  generalize W.setCell ⟨k.lb, i, none⟩ (.int .u64 b) = W' at ho hp ⊢
  refine ⟨D, M, ⟨?_, ?_, h.sg.out ho (by omega) (by omega), h.mp.out ho (by omega) (fun x hx e => by subst e; exact hg.2 hx), hp, h.wf, h.fq, ⟨h.len.1, by simpa using h.len.2⟩, fun x hx => Nat.lt_of_lt_of_le (h.lt x hx) ho.size, h.nd, h.dm, h.ap⟩, fun x hx => .inl hx, ho.mono (fun j e _ => .inr (.inr (.inr (.inr (.inr (.inr e))))))⟩
  · have := ho.blk h.hp (by omega)
    simpa using this
  · obtain ⟨g, cc, vs, hv⟩ := h.dv
    exact ⟨g, cc, vs, hv.out ho (fun x hx e => by subst e; exact hg.1 hx)⟩
theorem SdV.cells (h : SdV D M W k st) : W.cell? ⟨k.ps, 0, none⟩ = some (.pointer (some ⟨k.pd, 0, none⟩)) ∧ W.cell? ⟨k.ps, 1, none⟩ = some (.pointer (some ⟨k.pg, 0, none⟩)) ∧ W.cell? ⟨k.ps, 2, none⟩ = some (.pointer (some ⟨k.pm, 0, none⟩)) ∧ W.cell? ⟨k.ps, 3, none⟩ = some (.int .u64 st.q) ∧ W.cell? ⟨k.ps, 4, none⟩ = some (.slice (some ⟨k.lb, 0, none⟩) st.la.length st.la.length) ∧ W.cell? ⟨k.ps, 5, none⟩ = some (.int .i64 st.o) :=
  ⟨h.hp.cell 0, h.hp.cell 1, h.hp.cell 2, h.hp.cell 3, h.hp.cell 4, h.hp.cell 5⟩
theorem SdV.poke {g : Nat} (h : SdV D M W k st) (hg : ¬ SdO D M k g) (i : Nat) (u : Value) : SdV D M (W.setCell ⟨g, i, none⟩ u) k st :=
  h.out (out_one W g i u) (fun x hx e => hg (e ▸ hx))
/-- The device's own cells: the shape. -/
theorem SdV.dcells (h : SdV D M W k st) : W.cell? ⟨k.pd, 0, none⟩ = some (.int .i64 st.s.z) ∧ W.cell? ⟨k.pd, 1, none⟩ = some (.int .i64 st.s.zb) ∧ W.cell? ⟨k.pd, 2, none⟩ = some (.int .i64 st.s.b) ∧ W.cell? ⟨k.pd, 3, none⟩ = some (.int .i64 st.s.r) := by
  obtain ⟨g, cc, vs, hv⟩ := h.dv
  exact ⟨hv.pcell.1, hv.pcell.2.1, hv.pcell.2.2.1, hv.pcell.2.2.2.1⟩
end
end Go.Proofs.YtfcbcpjcmihooaaGreat
