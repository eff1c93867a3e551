/- Texts of this seat, one behind the other: LmR, LmQ. -/
import Derived.Test.YtncnkpnfmbgifaaGreatP20
import Derived.Test.YtncnkpnfmbgifaaGreatQ9
import Derived.BigQuiet
/- The document's map in the world; what one call of New, less and Drop does. -/
namespace Go.Proofs.YtncnkpnfmbgifaaGreat
open Go.RowKit
set_option linter.unusedVariables false
set_option maxRecDepth 4000

structure LmD (w : World) (r : Nat) (S : List Pl) : Prop where
 row : ∃ a n cc, Blk w r [.slice a n cc] 152 ∧ w.ownsRow 0 51 4 (.slice a n cc) n (plC S)
 good : Good S
structure LmN (B : Nat) (w : World) (r : Nat) (S : List Pl) : Prop where
 row : ∃ a n cc, Blk w r [.slice a n cc] 152 ∧ w.ownsRow B 51 4 (.slice a n cc) n (plC S)
 good : Good S
theorem own_ne {w : World} {r : Nat} {L : List Value} {t e : TypeId} {size n B : Nat} {v : Value} {xs : List Value} (hb : Blk w r L t) (ho : w.ownsRow B e size v n xs) (hne : t ≠ e) : v.ownBlock ≠ some r := by
 intro h
 obtain ⟨cur, hc⟩ := own_at_block ho h
 unfold Blk at hb
 rw [hb] at hc
 cases hc
 exact hne rfl
theorem LmD.lt {w : World} {r : Nat} {S : List Pl} (h : LmD w r S) : r < w.heap.size := by obtain ⟨a, n, cc, hb, _⟩ := h.row; exact hb.lt
theorem dless_of (x y : Pl) (w : World) : Calls Tryz.prog 187 #[.agg #[.int .u32 x.1.1, .int .u64 x.1.2, .int .i64 x.2.1, .int .i64 x.2.2], .agg #[.int .u32 y.1.1, .int .u64 y.1.2, .int .i64 y.2.1, .int .i64 y.2.2]] w fun e w' => e = .returned (.bool (ltP x.1 y.1)) ∧ Below w.heap.size w w' := by
 have hL : ltP x.1 y.1 = if x.1.1 = y.1.1 then decide (x.1.2 < y.1.2) else decide (x.1.1 < y.1.1) := by
  unfold ltP
  by_cases h : x.1.1 = y.1.1
  ·simp [h]
  ·simp [h]
 have HL : Hid (ltP x.1 y.1 = if x.1.1 = y.1.1 then decide (x.1.2 < y.1.2) else decide (x.1.1 < y.1.1)) := hL
 clear hL
 by_cases h : x.1.1 = y.1.1
 ·go_enter Tryz.func187, Tryz.ntmps187
  go_wp2
  go_ret
  refine ⟨?_, ((Below.refl _ _).alloc (Nat.le_refl _) _).alloc (by simp) _⟩
  rw [HL.out, if_pos h]; rfl
 ·go_enter Tryz.func187, Tryz.ntmps187
  go_wp2
  go_ret
  refine ⟨?_, ((Below.refl _ _).alloc (Nat.le_refl _) _).alloc (by simp) _⟩
  rw [HL.out, if_neg h]; rfl
theorem lapp_place {W : World} {B : Nat} {a : Option Addr} {n cc : Nat} {xs : List Pl} (h : W.ownsRow B 51 4 (.slice a n cc) n (plC xs)) (x : Pl) (hn : n ≤ 100000) (hB : B ≤ W.heap.size) (q : Nat) (hq : W.heap.size = q) :
  ∃ g' cc' W', (Builtin.append_ #[38, 38] 38 #[.slice a n cc, .slice (some ⟨q, 0, none⟩) 1 1]).run Tryz.prog (W.alloc (.cells #[.int .u32 x.1.1, .int .u64 x.1.2, .int .i64 x.2.1, .int .i64 x.2.2] 51)) = .ok (.slice (some ⟨g', 0, none⟩) (n + 1) cc') W' ∧
   W'.ownsRow B 51 4 (.slice (some ⟨g', 0, none⟩) (n + 1) cc') (n + 1) (plC (xs ++ [x])) ∧ W.grownBy W' (Value.slice a n cc).ownBlock := by
 subst hq
 have hb : Blk (W.alloc (.cells #[.int .u32 x.1.1, .int .u64 x.1.2, .int .i64 x.2.1, .int .i64 x.2.2] 51)) W.heap.size (plL x) 51 := Blk.new' rfl rfl
 obtain ⟨v', W', h1, h2, h3, h4⟩ := run_app (ty := 38) Tryz.underlying38 Tryz.zero_place rfl (by decide) (by decide) (own_zero (h.alloc (.cells #[.int .u32 x.1.1, .int .u64 x.1.2, .int .i64 x.2.1, .int .i64 x.2.2] 51))) ⟨W.heap.size, 0, none⟩ 1 1 (plL x) rfl (fun j u hj => by rw [Addr.add_mid, Nat.zero_add, hb.cell]; exact hj) (plL_one x) (by omega)
 rw [plC_snoc] at h2
 rcases h2.2 with ⟨_, h0⟩ | ⟨g', cc', cur, rfl, hB', hh, r⟩
 ·omega
 ·refine ⟨g', cc', W', h1, own_base h2 (fun g hg => ?_), (World.grownBy_alloc W _ _).andThen h3 (fun j e => .inr e)⟩
  rcases h4 with h4 | h4
  ·exact (h.lt g (by rw [← h4]; exact hg)).1
  ·have := h4 g hg
   simp at this
   omega
theorem dmDrop_of (r : Nat) (S : List Pl) (n : Pr) (w : World) (h : LmD w r S) (hS : S.length ≤ 10000) :
  Calls Tryz.prog 148 #[.pointer (some ⟨r, 0, none⟩), .int .u32 n.1, .int .u64 n.2] w fun e w' => e = .returned (.bool (getS S n).isSome) ∧ LmN w.heap.size w' r (dropS S n) ∧ Out (fun k => k = r) w w' := by
 obtain ⟨a, m, cc, hb, hr⟩ := h.row
 have hm : S.length = m := (own_pl hr).1
 subst hm
 have HG : Hid (Good S) := h.good
 have HR : Hid (Blk w r [.slice a S.length cc] 152 ∧ w.ownsRow 0 51 4 (.slice a S.length cc) S.length (plC S)) := ⟨hb, hr⟩
 clear h hb hr
 go_enter Tryz.func148, Tryz.ntmps148
 go_wp2
 go_loopw [7, 8] (fun v i wr => ∃ (k : Nat) (b : Option Addr) (dd : Nat), k ≤ S.length ∧ i = .int .i64 k ∧ v = .slice b (dropS (S.take k) n).length dd ∧ wr.ownsRow w.heap.size 51 4 (.slice b (dropS (S.take k) n).length dd) (dropS (S.take k) n).length (plC (dropS (S.take k) n)) ∧ Below w.heap.size w wr) (fun _ i _ => S.length - (intOf i).toNat)
 case atStart => exact ⟨0, none, 0, by omega, rfl, rfl, ⟨rfl, .inl ⟨rfl, rfl⟩⟩, Below.refl _ _⟩
 case round =>
  obtain ⟨k, b, dd, hk, rfl, rfl, hO, hB⟩ := hrel
  have c0 := (HR.out.1.below hB HR.out.1.lt).cell 0
  simp only [List.getElem?_cons_zero] at c0
  by_cases hlt : k < S.length
  ·have hlt' : (k : Int) < S.length := by omega
   obtain ⟨y, hy⟩ : ∃ y, S[k]? = some y := ⟨_, List.getElem?_eq_getElem hlt⟩
   obtain ⟨g, rfl, hc⟩ := (own_pl HR.out.2).2.resolve_left (by omega)
   obtain ⟨y0, y1, y2, y3⟩ := hc k y hy
   have y0 := (hB.cell (old_block y0)).trans y0
   have y1 := (hB.cell (old_block y1)).trans y1
   have y2 := (hB.cell (old_block y2)).trans y2
   have y3 := (hB.cell (old_block y3)).trans y3
   clear hc
   have hld : (dropS (S.take k) n).length ≤ k := by have := dropS_len (S.take k) n; rw [List.length_take] at this; omega
   have htk : S.take (k + 1) = S.take k ++ [y] := by rw [List.take_succ_eq_append_getElem hlt]; congr 2; exact (List.getElem?_eq_some_iff.1 hy).2
   by_cases hn : y.1 = n
   ·have hdr : dropS (S.take (k + 1)) n = dropS (S.take k) n := by rw [htk]; unfold dropS; simp [List.filter_append, hn]
    have e1 : (y.1.1 != n.1) = false := by rw [hn]; simp
    have e2 : (y.1.2 != n.2) = false := by rw [hn]; simp
    have HO : Hid (wr.ownsRow w.heap.size 51 4 (.slice b (dropS (S.take k) n).length dd) (dropS (S.take k) n).length (plC (dropS (S.take k) n)) ∧ Below w.heap.size w wr ∧ dropS (S.take (k + 1)) n = dropS (S.take k) n) := ⟨hO, hB, hdr⟩
    clear hO hB hdr htk hn hy
    go_wp2
    go_roundw
    case rel => exact ⟨k + 1, b, dd, by omega, by go_num, by rw [HO.out.2.2], by rw [HO.out.2.2]; exact HO.out.1, HO.out.2.1⟩
    case measure => simp [intOf]; omega
   ·have hdr : dropS (S.take (k + 1)) n = dropS (S.take k) n ++ [y] := by rw [htk]; unfold dropS; simp [List.filter_append, hn]
    by_cases ht : y.1.1 = n.1
    ·have e1 : (y.1.1 != n.1) = false := by rw [ht]; simp
     have e2 : (y.1.2 != n.2) = true := by
      have := pr_ne.1 hn
      simp only [bne_iff_ne]
      omega
     clear ht
     have HO : Hid (Below w.heap.size w wr) := hB
     obtain ⟨g', cc', W', hrun, hO3, hgr⟩ := lapp_place hO y (by omega) hB.size wr.heap.size rfl
     have HA : Hid (dropS (S.take (k + 1)) n = dropS (S.take k) n ++ [y] ∧ W'.ownsRow w.heap.size 51 4 (.slice (some ⟨g', 0, none⟩) ((dropS (S.take k) n).length + 1) cc') ((dropS (S.take k) n).length + 1) (plC (dropS (S.take k) n ++ [y])) ∧ Below w.heap.size w W') := ⟨hdr, hO3, hB.grown hgr hB.size (fun j hj => (hO.lt j hj).1)⟩
     clear hO hB hdr htk hn hy hO3 hgr
     go_wp2_with (first | (at_builtin; refine lwpList_append_run rfl _ _ 38 38 rfl _ _ rfl rfl _ _ hrun ?_) | go_in)
     go_roundw
     case rel => exact ⟨k + 1, some ⟨g', 0, none⟩, cc', by omega, by go_num, by rw [HA.out.1]; simp, by rw [HA.out.1]; simpa using HA.out.2.1, HA.out.2.2⟩
     case measure => simp [intOf]; omega
    ·have e1 : (y.1.1 != n.1) = true := by simpa using ht
     clear ht
     have HO : Hid (Below w.heap.size w wr) := hB
     obtain ⟨g', cc', W', hrun, hO3, hgr⟩ := lapp_place hO y (by omega) hB.size wr.heap.size rfl
     have HA : Hid (dropS (S.take (k + 1)) n = dropS (S.take k) n ++ [y] ∧ W'.ownsRow w.heap.size 51 4 (.slice (some ⟨g', 0, none⟩) ((dropS (S.take k) n).length + 1) cc') ((dropS (S.take k) n).length + 1) (plC (dropS (S.take k) n ++ [y])) ∧ Below w.heap.size w W') := ⟨hdr, hO3, hB.grown hgr hB.size (fun j hj => (hO.lt j hj).1)⟩
     clear hO hB hdr htk hn hy hO3 hgr
     go_wp2_with (first | (at_builtin; refine lwpList_append_run rfl _ _ 38 38 rfl _ _ rfl rfl _ _ hrun ?_) | go_in)
     go_roundw
     case rel => exact ⟨k + 1, some ⟨g', 0, none⟩, cc', by omega, by go_num, by rw [HA.out.1]; simp, by rw [HA.out.1]; simpa using HA.out.2.1, HA.out.2.2⟩
     case measure => simp [intOf]; omega
  ·have hge : (S.length : Int) ≤ k := by omega
   have hkn : k = S.length := by omega
   rw [hkn, List.take_length] at hO
   have f0 := (HR.out.1.below hB HR.out.1.lt).frozen 0
   have hts : S.take k = S := by rw [hkn, List.take_length]
   rw [hts]
   have HO : Hid (LmN w.heap.size (wr.setCell ⟨r, 0, none⟩ (.slice b (dropS S n).length dd)) r (dropS S n) ∧ Out (fun k => k = r) w (wr.setCell ⟨r, 0, none⟩ (.slice b (dropS S n).length dd))) := by
    have hbr := HR.out.1.below hB HR.out.1.lt
    have hne := own_ne hbr hO (by decide)
    refine ⟨⟨⟨b, _, dd, hbr.set 0 _, ?_⟩, HG.out.drop n⟩, (below_out (fun k => k = r) hB).setCell (.inl rfl) _⟩
    have ho : Out (fun k => k = r) wr (wr.setCell ⟨r, 0, none⟩ (.slice b (dropS S n).length dd)) := (Out.refl (fun k => k = r) wr).setCell (p := ⟨r, 0, none⟩) (.inl rfl) _
    exact ho.own hO (fun g hg e => hne (by rw [hg, e]))
   have HW : Hid (decide ((dropS S n).length < S.length) = (getS S n).isSome) := drop_len S n
   clear hO hB hts hkn
   go_wp2
   go_ret
   refine ⟨?_, HO.out⟩
   rw [← HW.out]
   simp
theorem neqA (a b : Pr) (W : World) : (Go.binOp .neq 49 (.agg #[.int .i64 a.1, .int .i64 a.2]) (.agg #[.int .i64 b.1, .int .i64 b.2])).run Tryz.prog W = .ok (.bool (a != b)) W := by
 have h : (a != b) = !(a.1 == b.1 && a.2 == b.2) := by obtain ⟨a1, a2⟩ := a; obtain ⟨b1, b2⟩ := b; rfl
 rw [h]
 by_cases h1 : a.1 = b.1
 ·by_cases h2 : a.2 = b.2
  ·go_simp
  ·go_simp
 ·go_simp
theorem neqP (x y : Pl) (W : World) : (Go.binOp .neq 51 (.agg #[.int .u32 x.1.1, .int .u64 x.1.2, .int .i64 x.2.1, .int .i64 x.2.2]) (.agg #[.int .u32 y.1.1, .int .u64 y.1.2, .int .i64 y.2.1, .int .i64 y.2.2])).run Tryz.prog W = .ok (.bool (x != y)) W := by
 have h : (x != y) = !((x.1.1 == y.1.1 && x.1.2 == y.1.2) && (x.2.1 == y.2.1 && x.2.2 == y.2.2)) := by obtain ⟨⟨a1, a2⟩, a3, a4⟩ := x; obtain ⟨⟨b1, b2⟩, b3, b4⟩ := y; rfl
 rw [h]
 by_cases h1 : x.1.1 = y.1.1
 ·by_cases h2 : x.1.2 = y.1.2
  ·by_cases h3 : x.2.1 = y.2.1
   ·by_cases h4 : x.2.2 = y.2.2
    ·go_simp
    ·go_simp
   ·go_simp
  ·go_simp
 ·go_simp
end Go.Proofs.YtncnkpnfmbgifaaGreat

/- What one call of the document's Put does. -/
namespace Go.Proofs.YtncnkpnfmbgifaaGreat
open Go.RowKit
set_option linter.unusedVariables false
set_option maxRecDepth 4000

theorem putAll_step (x : Pl) (S : List Pl) (k : Nat) (y : Pl) (hy : S[k]? = some y) : putAll x (S.take (k + 1)) = putStep x (putAll x (S.take k)) y := by
 have hk : k < S.length := (List.getElem?_eq_some_iff.1 hy).1
 have e : S.take (k + 1) = S.take k ++ [y] := by rw [List.take_succ_eq_append_getElem hk]; congr 2; exact (List.getElem?_eq_some_iff.1 hy).2
 unfold putAll
 rw [e, List.foldl_append]; rfl
theorem putAll_len (x : Pl) : ∀ (S : List Pl) (s : List Pl × Bool), (S.foldl (putStep x) s).1.length ≤ s.1.length + 2 * S.length
 | [], s => by simp
 | y :: r, s => by
  have := putAll_len x r (putStep x s y)
  have h2 : (putStep x s y).1.length ≤ s.1.length + 2 := by
   unfold putStep
   simp only [List.length_append]
   have a1 : (if (!s.2 && (ltP x.1 y.1 || y.1 == x.1)) = true then [x] else []).length ≤ 1 := by split <;> simp
   have a2 : (if (!(y.1 == x.1) && (y.2 != x.2)) = true then [y] else []).length ≤ 1 := by split <;> simp
   omega
  rw [List.foldl_cons, List.length_cons]
  omega
structure PutR (w : World) (x : Pl) (b : Option Addr) (dd : Nat) (o : List Pl) (wr : World) : Prop where
 bx : Blk wr w.heap.size (plL x) 51
 row : wr.ownsRow (w.heap.size + 1) 51 4 (.slice b o.length dd) o.length (plC o)
 bel : Below w.heap.size w wr
theorem PutR.below {w : World} {x : Pl} {b : Option Addr} {dd : Nat} {o : List Pl} {wr wr' : World} (h : PutR w x b dd o wr) (hb : Below wr.heap.size wr wr') : PutR w x b dd o wr' :=
 ⟨h.bx.below hb h.bx.lt, (below_out Non hb).own h.row (fun _ _ e => e), below_on h.bel hb⟩
theorem PutR.size {w : World} {x : Pl} {b : Option Addr} {dd : Nat} {o : List Pl} {wr : World} (h : PutR w x b dd o wr) : w.heap.size + 1 ≤ wr.heap.size := h.bx.lt
theorem PutR.app {w : World} {x : Pl} {b : Option Addr} {dd : Nat} {o : List Pl} {wr : World} (h : PutR w x b dd o wr) (y : Pl) (hn : o.length ≤ 100000) :
  ∃ g cc W, (Builtin.append_ #[38, 38] 38 #[.slice b o.length dd, .slice (some ⟨wr.heap.size, 0, none⟩) 1 1]).run Tryz.prog (wr.alloc (.cells #[.int .u32 y.1.1, .int .u64 y.1.2, .int .i64 y.2.1, .int .i64 y.2.2] 51)) = .ok (.slice (some ⟨g, 0, none⟩) (o.length + 1) cc) W ∧
   PutR w x (some ⟨g, 0, none⟩) cc (o ++ [y]) W ∧ Out (fun k => w.heap.size + 1 ≤ k ∧ (Value.slice b o.length dd).ownBlock = some k) wr W := by
 obtain ⟨g, cc, W, h1, h2, h3⟩ := lapp_place h.row y hn h.size wr.heap.size rfl
 have ho : Out (fun k => w.heap.size + 1 ≤ k ∧ (Value.slice b o.length dd).ownBlock = some k) wr W := ⟨h3.os, h3.tape, h3.output, h3.size, fun k hk hn' => h3.block k hk (fun e => hn' ⟨(h.row.lt k e.symm).1, e.symm⟩)⟩
 refine ⟨g, cc, W, h1, ⟨ho.blk h.bx (fun e => by omega), by simpa using h2, ?_⟩, ho⟩
 exact ⟨h3.os.trans h.bel.os, h3.tape.trans h.bel.tape, h3.output.trans h.bel.output, Nat.le_trans h.bel.size ho.size, fun j hj => (ho.block j (Nat.lt_of_lt_of_le hj h.bel.size) (fun e => by omega)).trans (h.bel.block j hj)⟩
theorem Blk.four {w : World} {g : Nat} {x : Pl} (h : Blk w g (plL x) 51) : w.cell? ⟨g, 0, none⟩ = some (.int .u32 x.1.1) ∧ w.cell? ⟨g, 1, none⟩ = some (.int .u64 x.1.2) ∧ w.cell? ⟨g, 2, none⟩ = some (.int .i64 x.2.1) ∧ w.cell? ⟨g, 3, none⟩ = some (.int .i64 x.2.2) :=
 ⟨h.cell 0, h.cell 1, h.cell 2, h.cell 3⟩
theorem PutR.done {w : World} {x : Pl} {b : Option Addr} {dd r : Nat} {o : List Pl} {wr : World} {v : Value} (h : PutR w x b dd o wr) (hb : Blk w r [v] 152) (hg : Good o) : LmN w.heap.size (wr.setCell ⟨r, 0, none⟩ (.slice b o.length dd)) r o ∧ Out (fun k => k = r) w (wr.setCell ⟨r, 0, none⟩ (.slice b o.length dd)) := by
 have hbr := hb.below h.bel hb.lt
 have hne := own_ne hbr h.row (by decide)
 refine ⟨⟨⟨b, _, dd, hbr.set 0 _, ?_⟩, hg⟩, (below_out (fun k => k = r) h.bel).setCell (.inl rfl) _⟩
 have ho : Out (fun k => k = r) wr (wr.setCell ⟨r, 0, none⟩ (.slice b o.length dd)) := (Out.refl (fun k => k = r) wr).setCell (p := ⟨r, 0, none⟩) (.inl rfl) _
 exact ho.own (own_base (own_zero h.row) (fun g hg => by have := (h.row.lt g hg).1; omega)) (fun g hg e => hne (by rw [hg, e]))
set_option maxHeartbeats 8000000 in
theorem dmPut_of (r : Nat) (S : List Pl) (x : Pl) (w : World) (h : LmD w r S) (hx : FitsP x) (hS : S.length ≤ 10000) :
  Calls Tryz.prog 133 #[.pointer (some ⟨r, 0, none⟩), .agg #[.int .u32 x.1.1, .int .u64 x.1.2, .int .i64 x.2.1, .int .i64 x.2.2]] w fun e w' => e = .returned (.tuple #[]) ∧ LmN w.heap.size w' r (putS S x) ∧ Out (fun k => k = r) w w' := by
 obtain ⟨a, m, cc, hb, hr⟩ := h.row
 have hm : S.length = m := (own_pl hr).1
 subst hm
 have HG : Hid (Good S ∧ FitsP x) := ⟨h.good, hx⟩
 have HR : Hid (Blk w r [.slice a S.length cc] 152 ∧ w.ownsRow 0 51 4 (.slice a S.length cc) S.length (plC S)) := ⟨hb, hr⟩
 clear h hb hr hx
 go_enter Tryz.func133, Tryz.ntmps133
 go_wp2
 go_loopw [4, 5, 6, 7, 8, 9] (fun v d i _ _ _ wr => ∃ (k : Nat) (b : Option Addr) (dd : Nat) (o : List Pl) (d' : Bool), k ≤ S.length ∧ i = .int .i64 k ∧ d = .bool d' ∧ v = .slice b o.length dd ∧ PutR w x b dd o wr ∧ putAll x (S.take k) = (o, d')) (fun _ _ i _ _ _ _ => S.length - (intOf i).toNat)
 case atStart => exact ⟨0, none, 0, [], false, by omega, rfl, rfl, rfl, ⟨Blk.new' rfl rfl, ⟨rfl, .inl ⟨rfl, rfl⟩⟩, (Below.refl _ _).alloc (Nat.le_refl _) _⟩, rfl⟩
 case round =>
  obtain ⟨k, b, dd, o, d, hk, rfl, rfl, rfl, hP, hod⟩ := hrel
  have c0 := (HR.out.1.below hP.bel HR.out.1.lt).cell 0
  have c0' := fun o => (HR.out.1.below (hP.bel.alloc hP.bel.size o) HR.out.1.lt).cell 0
  simp only [List.getElem?_cons_zero] at c0 c0'
  have hol : o.length ≤ 2 * k := by
   have := putAll_len x (S.take k) ([], false)
   rw [List.length_take] at this
   unfold putAll at hod
   rw [hod] at this
   simp at this
   omega
  by_cases hlt : k < S.length
  ·have hlt' : (k : Int) < S.length := by omega
   obtain ⟨y, hy⟩ : ∃ y, S[k]? = some y := ⟨_, List.getElem?_eq_getElem hlt⟩
   have HST : Hid (putAll x (S.take (k + 1)) = putStep x (o, d) y) := by rw [← hod]; exact putAll_step x S k y hy
   obtain ⟨g, rfl, hc⟩ := (own_pl HR.out.2).2.resolve_left (by omega)
   obtain ⟨y0, y1, y2, y3⟩ := hc k y hy
   have y0 := (hP.bel.cell (old_block y0)).trans y0
   have y1 := (hP.bel.cell (old_block y1)).trans y1
   have y2 := (hP.bel.cell (old_block y2)).trans y2
   have y3 := (hP.bel.cell (old_block y3)).trans y3
   have HY : Hid (Blk (wr.alloc (.cells #[.int .u32 y.1.1, .int .u64 y.1.2, .int .i64 y.2.1, .int .i64 y.2.2] 51)) wr.heap.size (plL y) 51) := Blk.new' rfl rfl
   have HP : Hid (PutR w x b dd o (wr.alloc (.cells #[.int .u32 y.1.1, .int .u64 y.1.2, .int .i64 y.2.1, .int .i64 y.2.2] 51))) := hP.below ((Below.refl _ _).alloc (Nat.le_refl _) _)
   have HQ : Hid (PutR w x b dd o wr) := hP
   obtain ⟨x0, x1, x2, x3⟩ := HP.out.bx.four
   have C := dless_of x y (wr.alloc (.cells #[.int .u32 y.1.1, .int .u64 y.1.2, .int .i64 y.2.1, .int .i64 y.2.2] 51))
   clear hc hP hy
   clear hod
   cases d with
   | false =>
    by_cases hsm : y.1 = x.1
    ·have e1 : (y.1.1 == x.1.1) = true := by rw [hsm]; simp
     have e2 : (y.1.2 == x.1.2) = true := by rw [hsm]; simp
     have hl : ltP x.1 y.1 = false := by rw [hsm]; exact ltP_irrefl _
     rw [hl] at C
     have HL : Hid (ltP x.1 y.1 = false) := hl
     have HE : Hid ((y.1 == x.1) = true) := by show (y.1 == x.1) = true; simp [hsm]
     have HT : Hid (True) := trivial
     clear hsm hl
     go_wp2_with fail
     refine C.mono ?_
     rintro e w5 ⟨rfl, hb5⟩
     have hP5 := HP.out.below hb5
     have hY5 := HY.out.below hb5 HY.out.lt
     obtain ⟨x0, x1, x2, x3⟩ := hP5.bx.four
     obtain ⟨y0, y1, y2, y3⟩ := hY5.four
     obtain ⟨g1, d1, W1, hr1, hP6, ho1⟩ := hP5.app x (by omega)
     have hY6 := ho1.blk hY5 (fun e => by have := (HQ.out.row.lt _ e.2).2; omega)
     obtain ⟨z0, z1, z2, z3⟩ := hP6.bx.four
     obtain ⟨v0, v1, v2, v3⟩ := hY6.four
     have HF : Hid (PutR w x (some ⟨g1, 0, none⟩) d1 (o ++ [x]) W1) := hP6
     clear hP5 hY5 hb5 hP6 hY6 ho1
     go_wp2_with (first | (at_builtin; refine lwpList_append_run rfl _ _ 38 38 rfl _ _ rfl rfl _ _ hr1 ?_; clear hr1) | go_in)
     go_roundw
     case rel =>
      have hs : putAll x (S.take (k + 1)) = ((o ++ [x]), true) := by rw [HST.out]; simp [putStep, HL.out, HE.out]
      exact ⟨k + 1, (some ⟨g1, 0, none⟩), d1, (o ++ [x]), true, by omega, by go_num, rfl, by simp, HF.out, hs⟩
     case measure => simp [intOf]; omega
    ·have hne := pr_ne.1 hsm
     have HE : Hid ((y.1 == x.1) = false) := by show (y.1 == x.1) = false; simpa using hsm
     by_cases ht : y.1.1 = x.1.1
     ·have e1 : (y.1.1 == x.1.1) = true := by rw [ht]; simp
      have e2 : (y.1.2 == x.1.2) = false := by simp only [beq_eq_false_iff_ne]; omega
      clear ht hsm hne
      cases hl : ltP x.1 y.1 with
      | false =>
       rw [hl] at C
       have HL : Hid (ltP x.1 y.1 = false) := hl
       clear hl
       by_cases hat : y.2 = x.2
       ·have hab : (y.2 != x.2) = false := by simp [hat]
        have hq := fun W => neqA y.2 x.2 W
        rw [hab] at hq
        have HT : Hid ((y.2 != x.2) = false) := hab
        clear hab
        clear hat
        go_wp2_with fail
        refine C.mono ?_
        rintro e w5 ⟨rfl, hb5⟩
        have hP5 := HP.out.below hb5
        have hY5 := HY.out.below hb5 HY.out.lt
        obtain ⟨x0, x1, x2, x3⟩ := hP5.bx.four
        obtain ⟨y0, y1, y2, y3⟩ := hY5.four
        have HF : Hid (PutR w x b dd o w5) := hP5
        clear hP5 hY5 hb5
        go_wp2
        go_roundw
        case rel =>
         have hs : putAll x (S.take (k + 1)) = (o, false) := by rw [HST.out]; simp [putStep, HL.out, HE.out, HT.out]
         exact ⟨k + 1, b, dd, o, false, by omega, by go_num, rfl, by simp, HF.out, hs⟩
        case measure => simp [intOf]; omega
       ·have hab : (y.2 != x.2) = true := by simpa using hat
        have hq := fun W => neqA y.2 x.2 W
        rw [hab] at hq
        have HT : Hid ((y.2 != x.2) = true) := hab
        clear hab
        clear hat
        go_wp2_with fail
        refine C.mono ?_
        rintro e w5 ⟨rfl, hb5⟩
        have hP5 := HP.out.below hb5
        have hY5 := HY.out.below hb5 HY.out.lt
        obtain ⟨x0, x1, x2, x3⟩ := hP5.bx.four
        obtain ⟨y0, y1, y2, y3⟩ := hY5.four
        obtain ⟨g2, d2, W2, hr2, hP7, ho2⟩ := hP5.app y (by omega)
        have HF : Hid (PutR w x (some ⟨g2, 0, none⟩) d2 (o ++ [y]) W2) := hP7
        clear hP5 hY5 hb5 hP7 ho2
        go_wp2_with (first | (at_builtin; refine lwpList_append_run rfl _ _ 38 38 rfl _ _ rfl rfl _ _ hr2 ?_; clear hr2) | go_in)
        go_roundw
        case rel =>
         have hs : putAll x (S.take (k + 1)) = ((o ++ [y]), false) := by rw [HST.out]; simp [putStep, HL.out, HE.out, HT.out]
         exact ⟨k + 1, (some ⟨g2, 0, none⟩), d2, (o ++ [y]), false, by omega, by go_num, rfl, by simp, HF.out, hs⟩
        case measure => simp [intOf]; omega
      | true =>
       rw [hl] at C
       have HL : Hid (ltP x.1 y.1 = true) := hl
       clear hl
       by_cases hat : y.2 = x.2
       ·have hab : (y.2 != x.2) = false := by simp [hat]
        have hq := fun W => neqA y.2 x.2 W
        rw [hab] at hq
        have HT : Hid ((y.2 != x.2) = false) := hab
        clear hab
        clear hat
        go_wp2_with fail
        refine C.mono ?_
        rintro e w5 ⟨rfl, hb5⟩
        have hP5 := HP.out.below hb5
        have hY5 := HY.out.below hb5 HY.out.lt
        obtain ⟨x0, x1, x2, x3⟩ := hP5.bx.four
        obtain ⟨y0, y1, y2, y3⟩ := hY5.four
        obtain ⟨g1, d1, W1, hr1, hP6, ho1⟩ := hP5.app x (by omega)
        have hY6 := ho1.blk hY5 (fun e => by have := (HQ.out.row.lt _ e.2).2; omega)
        obtain ⟨z0, z1, z2, z3⟩ := hP6.bx.four
        obtain ⟨v0, v1, v2, v3⟩ := hY6.four
        have HF : Hid (PutR w x (some ⟨g1, 0, none⟩) d1 (o ++ [x]) W1) := hP6
        clear hP5 hY5 hb5 hP6 hY6 ho1
        go_wp2_with (first | (at_builtin; refine lwpList_append_run rfl _ _ 38 38 rfl _ _ rfl rfl _ _ hr1 ?_; clear hr1) | go_in)
        go_roundw
        case rel =>
         have hs : putAll x (S.take (k + 1)) = ((o ++ [x]), true) := by rw [HST.out]; simp [putStep, HL.out, HE.out, HT.out]
         exact ⟨k + 1, (some ⟨g1, 0, none⟩), d1, (o ++ [x]), true, by omega, by go_num, rfl, by simp, HF.out, hs⟩
        case measure => simp [intOf]; omega
       ·have hab : (y.2 != x.2) = true := by simpa using hat
        have hq := fun W => neqA y.2 x.2 W
        rw [hab] at hq
        have HT : Hid ((y.2 != x.2) = true) := hab
        clear hab
        clear hat
        go_wp2_with fail
        refine C.mono ?_
        rintro e w5 ⟨rfl, hb5⟩
        have hP5 := HP.out.below hb5
        have hY5 := HY.out.below hb5 HY.out.lt
        obtain ⟨x0, x1, x2, x3⟩ := hP5.bx.four
        obtain ⟨y0, y1, y2, y3⟩ := hY5.four
        obtain ⟨g1, d1, W1, hr1, hP6, ho1⟩ := hP5.app x (by omega)
        have hY6 := ho1.blk hY5 (fun e => by have := (HQ.out.row.lt _ e.2).2; omega)
        obtain ⟨z0, z1, z2, z3⟩ := hP6.bx.four
        obtain ⟨v0, v1, v2, v3⟩ := hY6.four
        obtain ⟨g2, d2, W2, hr2, hP7, ho2⟩ := hP6.app y (by simp; omega)
        simp only [List.length_append, List.length_cons, List.length_nil, Nat.zero_add] at hr2
        have HF : Hid (PutR w x (some ⟨g2, 0, none⟩) d2 (o ++ [x] ++ [y]) W2) := hP7
        clear hP5 hY5 hb5 hP6 hY6 ho1 hP7 ho2
        go_wp2_with (first | (at_builtin; refine lwpList_append_run rfl _ _ 38 38 rfl _ _ rfl rfl _ _ hr1 ?_; clear hr1) | (at_builtin; refine lwpList_append_run rfl _ _ 38 38 rfl _ _ rfl rfl _ _ hr2 ?_; clear hr2) | go_in)
        go_roundw
        case rel =>
         have hs : putAll x (S.take (k + 1)) = ((o ++ [x] ++ [y]), true) := by rw [HST.out]; simp [putStep, HL.out, HE.out, HT.out]
         exact ⟨k + 1, (some ⟨g2, 0, none⟩), d2, (o ++ [x] ++ [y]), true, by omega, by go_num, rfl, by simp, HF.out, hs⟩
        case measure => simp [intOf]; omega
     ·have e1 : (y.1.1 == x.1.1) = false := by simpa using ht
      clear ht hsm hne
      cases hl : ltP x.1 y.1 with
      | false =>
       rw [hl] at C
       have HL : Hid (ltP x.1 y.1 = false) := hl
       clear hl
       by_cases hat : y.2 = x.2
       ·have hab : (y.2 != x.2) = false := by simp [hat]
        have hq := fun W => neqA y.2 x.2 W
        rw [hab] at hq
        have HT : Hid ((y.2 != x.2) = false) := hab
        clear hab
        clear hat
        go_wp2_with fail
        refine C.mono ?_
        rintro e w5 ⟨rfl, hb5⟩
        have hP5 := HP.out.below hb5
        have hY5 := HY.out.below hb5 HY.out.lt
        obtain ⟨x0, x1, x2, x3⟩ := hP5.bx.four
        obtain ⟨y0, y1, y2, y3⟩ := hY5.four
        have HF : Hid (PutR w x b dd o w5) := hP5
        clear hP5 hY5 hb5
        go_wp2
        go_roundw
        case rel =>
         have hs : putAll x (S.take (k + 1)) = (o, false) := by rw [HST.out]; simp [putStep, HL.out, HE.out, HT.out]
         exact ⟨k + 1, b, dd, o, false, by omega, by go_num, rfl, by simp, HF.out, hs⟩
        case measure => simp [intOf]; omega
       ·have hab : (y.2 != x.2) = true := by simpa using hat
        have hq := fun W => neqA y.2 x.2 W
        rw [hab] at hq
        have HT : Hid ((y.2 != x.2) = true) := hab
        clear hab
        clear hat
        go_wp2_with fail
        refine C.mono ?_
        rintro e w5 ⟨rfl, hb5⟩
        have hP5 := HP.out.below hb5
        have hY5 := HY.out.below hb5 HY.out.lt
        obtain ⟨x0, x1, x2, x3⟩ := hP5.bx.four
        obtain ⟨y0, y1, y2, y3⟩ := hY5.four
        obtain ⟨g2, d2, W2, hr2, hP7, ho2⟩ := hP5.app y (by omega)
        have HF : Hid (PutR w x (some ⟨g2, 0, none⟩) d2 (o ++ [y]) W2) := hP7
        clear hP5 hY5 hb5 hP7 ho2
        go_wp2_with (first | (at_builtin; refine lwpList_append_run rfl _ _ 38 38 rfl _ _ rfl rfl _ _ hr2 ?_; clear hr2) | go_in)
        go_roundw
        case rel =>
         have hs : putAll x (S.take (k + 1)) = ((o ++ [y]), false) := by rw [HST.out]; simp [putStep, HL.out, HE.out, HT.out]
         exact ⟨k + 1, (some ⟨g2, 0, none⟩), d2, (o ++ [y]), false, by omega, by go_num, rfl, by simp, HF.out, hs⟩
        case measure => simp [intOf]; omega
      | true =>
       rw [hl] at C
       have HL : Hid (ltP x.1 y.1 = true) := hl
       clear hl
       by_cases hat : y.2 = x.2
       ·have hab : (y.2 != x.2) = false := by simp [hat]
        have hq := fun W => neqA y.2 x.2 W
        rw [hab] at hq
        have HT : Hid ((y.2 != x.2) = false) := hab
        clear hab
        clear hat
        go_wp2_with fail
        refine C.mono ?_
        rintro e w5 ⟨rfl, hb5⟩
        have hP5 := HP.out.below hb5
        have hY5 := HY.out.below hb5 HY.out.lt
        obtain ⟨x0, x1, x2, x3⟩ := hP5.bx.four
        obtain ⟨y0, y1, y2, y3⟩ := hY5.four
        obtain ⟨g1, d1, W1, hr1, hP6, ho1⟩ := hP5.app x (by omega)
        have hY6 := ho1.blk hY5 (fun e => by have := (HQ.out.row.lt _ e.2).2; omega)
        obtain ⟨z0, z1, z2, z3⟩ := hP6.bx.four
        obtain ⟨v0, v1, v2, v3⟩ := hY6.four
        have HF : Hid (PutR w x (some ⟨g1, 0, none⟩) d1 (o ++ [x]) W1) := hP6
        clear hP5 hY5 hb5 hP6 hY6 ho1
        go_wp2_with (first | (at_builtin; refine lwpList_append_run rfl _ _ 38 38 rfl _ _ rfl rfl _ _ hr1 ?_; clear hr1) | go_in)
        go_roundw
        case rel =>
         have hs : putAll x (S.take (k + 1)) = ((o ++ [x]), true) := by rw [HST.out]; simp [putStep, HL.out, HE.out, HT.out]
         exact ⟨k + 1, (some ⟨g1, 0, none⟩), d1, (o ++ [x]), true, by omega, by go_num, rfl, by simp, HF.out, hs⟩
        case measure => simp [intOf]; omega
       ·have hab : (y.2 != x.2) = true := by simpa using hat
        have hq := fun W => neqA y.2 x.2 W
        rw [hab] at hq
        have HT : Hid ((y.2 != x.2) = true) := hab
        clear hab
        clear hat
        go_wp2_with fail
        refine C.mono ?_
        rintro e w5 ⟨rfl, hb5⟩
        have hP5 := HP.out.below hb5
        have hY5 := HY.out.below hb5 HY.out.lt
        obtain ⟨x0, x1, x2, x3⟩ := hP5.bx.four
        obtain ⟨y0, y1, y2, y3⟩ := hY5.four
        obtain ⟨g1, d1, W1, hr1, hP6, ho1⟩ := hP5.app x (by omega)
        have hY6 := ho1.blk hY5 (fun e => by have := (HQ.out.row.lt _ e.2).2; omega)
        obtain ⟨z0, z1, z2, z3⟩ := hP6.bx.four
        obtain ⟨v0, v1, v2, v3⟩ := hY6.four
        obtain ⟨g2, d2, W2, hr2, hP7, ho2⟩ := hP6.app y (by simp; omega)
        simp only [List.length_append, List.length_cons, List.length_nil, Nat.zero_add] at hr2
        have HF : Hid (PutR w x (some ⟨g2, 0, none⟩) d2 (o ++ [x] ++ [y]) W2) := hP7
        clear hP5 hY5 hb5 hP6 hY6 ho1 hP7 ho2
        go_wp2_with (first | (at_builtin; refine lwpList_append_run rfl _ _ 38 38 rfl _ _ rfl rfl _ _ hr1 ?_; clear hr1) | (at_builtin; refine lwpList_append_run rfl _ _ 38 38 rfl _ _ rfl rfl _ _ hr2 ?_; clear hr2) | go_in)
        go_roundw
        case rel =>
         have hs : putAll x (S.take (k + 1)) = ((o ++ [x] ++ [y]), true) := by rw [HST.out]; simp [putStep, HL.out, HE.out, HT.out]
         exact ⟨k + 1, (some ⟨g2, 0, none⟩), d2, (o ++ [x] ++ [y]), true, by omega, by go_num, rfl, by simp, HF.out, hs⟩
        case measure => simp [intOf]; omega
   | true =>
    by_cases hsm : y.1 = x.1
    ·have e1 : (y.1.1 == x.1.1) = true := by rw [hsm]; simp
     have e2 : (y.1.2 == x.1.2) = true := by rw [hsm]; simp
     have hl : ltP x.1 y.1 = false := by rw [hsm]; exact ltP_irrefl _
     rw [hl] at C
     have HL : Hid (ltP x.1 y.1 = false) := hl
     have HE : Hid ((y.1 == x.1) = true) := by show (y.1 == x.1) = true; simp [hsm]
     have HT : Hid (True) := trivial
     clear hsm hl
     go_wp2_with fail
     refine C.mono ?_
     rintro e w5 ⟨rfl, hb5⟩
     have hP5 := HP.out.below hb5
     have hY5 := HY.out.below hb5 HY.out.lt
     obtain ⟨x0, x1, x2, x3⟩ := hP5.bx.four
     obtain ⟨y0, y1, y2, y3⟩ := hY5.four
     have HF : Hid (PutR w x b dd o w5) := hP5
     clear hP5 hY5 hb5
     go_wp2
     go_roundw
     case rel =>
      have hs : putAll x (S.take (k + 1)) = (o, true) := by rw [HST.out]; simp [putStep, HL.out, HE.out]
      exact ⟨k + 1, b, dd, o, true, by omega, by go_num, rfl, by simp, HF.out, hs⟩
     case measure => simp [intOf]; omega
    ·have hne := pr_ne.1 hsm
     have HE : Hid ((y.1 == x.1) = false) := by show (y.1 == x.1) = false; simpa using hsm
     by_cases ht : y.1.1 = x.1.1
     ·have e1 : (y.1.1 == x.1.1) = true := by rw [ht]; simp
      have e2 : (y.1.2 == x.1.2) = false := by simp only [beq_eq_false_iff_ne]; omega
      clear ht hsm hne
      cases hl : ltP x.1 y.1 with
      | false =>
       rw [hl] at C
       have HL : Hid (ltP x.1 y.1 = false) := hl
       clear hl
       by_cases hat : y.2 = x.2
       ·have hab : (y.2 != x.2) = false := by simp [hat]
        have hq := fun W => neqA y.2 x.2 W
        rw [hab] at hq
        have HT : Hid ((y.2 != x.2) = false) := hab
        clear hab
        clear hat
        go_wp2_with fail
        refine C.mono ?_
        rintro e w5 ⟨rfl, hb5⟩
        have hP5 := HP.out.below hb5
        have hY5 := HY.out.below hb5 HY.out.lt
        obtain ⟨x0, x1, x2, x3⟩ := hP5.bx.four
        obtain ⟨y0, y1, y2, y3⟩ := hY5.four
        have HF : Hid (PutR w x b dd o w5) := hP5
        clear hP5 hY5 hb5
        go_wp2
        go_roundw
        case rel =>
         have hs : putAll x (S.take (k + 1)) = (o, true) := by rw [HST.out]; simp [putStep, HE.out, HT.out]
         exact ⟨k + 1, b, dd, o, true, by omega, by go_num, rfl, by simp, HF.out, hs⟩
        case measure => simp [intOf]; omega
       ·have hab : (y.2 != x.2) = true := by simpa using hat
        have hq := fun W => neqA y.2 x.2 W
        rw [hab] at hq
        have HT : Hid ((y.2 != x.2) = true) := hab
        clear hab
        clear hat
        go_wp2_with fail
        refine C.mono ?_
        rintro e w5 ⟨rfl, hb5⟩
        have hP5 := HP.out.below hb5
        have hY5 := HY.out.below hb5 HY.out.lt
        obtain ⟨x0, x1, x2, x3⟩ := hP5.bx.four
        obtain ⟨y0, y1, y2, y3⟩ := hY5.four
        obtain ⟨g2, d2, W2, hr2, hP7, ho2⟩ := hP5.app y (by omega)
        have HF : Hid (PutR w x (some ⟨g2, 0, none⟩) d2 (o ++ [y]) W2) := hP7
        clear hP5 hY5 hb5 hP7 ho2
        go_wp2_with (first | (at_builtin; refine lwpList_append_run rfl _ _ 38 38 rfl _ _ rfl rfl _ _ hr2 ?_; clear hr2) | go_in)
        go_roundw
        case rel =>
         have hs : putAll x (S.take (k + 1)) = ((o ++ [y]), true) := by rw [HST.out]; simp [putStep, HE.out, HT.out]
         exact ⟨k + 1, (some ⟨g2, 0, none⟩), d2, (o ++ [y]), true, by omega, by go_num, rfl, by simp, HF.out, hs⟩
        case measure => simp [intOf]; omega
      | true =>
       rw [hl] at C
       have HL : Hid (ltP x.1 y.1 = true) := hl
       clear hl
       by_cases hat : y.2 = x.2
       ·have hab : (y.2 != x.2) = false := by simp [hat]
        have hq := fun W => neqA y.2 x.2 W
        rw [hab] at hq
        have HT : Hid ((y.2 != x.2) = false) := hab
        clear hab
        clear hat
        go_wp2_with fail
        refine C.mono ?_
        rintro e w5 ⟨rfl, hb5⟩
        have hP5 := HP.out.below hb5
        have hY5 := HY.out.below hb5 HY.out.lt
        obtain ⟨x0, x1, x2, x3⟩ := hP5.bx.four
        obtain ⟨y0, y1, y2, y3⟩ := hY5.four
        have HF : Hid (PutR w x b dd o w5) := hP5
        clear hP5 hY5 hb5
        go_wp2
        go_roundw
        case rel =>
         have hs : putAll x (S.take (k + 1)) = (o, true) := by rw [HST.out]; simp [putStep, HE.out, HT.out]
         exact ⟨k + 1, b, dd, o, true, by omega, by go_num, rfl, by simp, HF.out, hs⟩
        case measure => simp [intOf]; omega
       ·have hab : (y.2 != x.2) = true := by simpa using hat
        have hq := fun W => neqA y.2 x.2 W
        rw [hab] at hq
        have HT : Hid ((y.2 != x.2) = true) := hab
        clear hab
        clear hat
        go_wp2_with fail
        refine C.mono ?_
        rintro e w5 ⟨rfl, hb5⟩
        have hP5 := HP.out.below hb5
        have hY5 := HY.out.below hb5 HY.out.lt
        obtain ⟨x0, x1, x2, x3⟩ := hP5.bx.four
        obtain ⟨y0, y1, y2, y3⟩ := hY5.four
        obtain ⟨g2, d2, W2, hr2, hP7, ho2⟩ := hP5.app y (by omega)
        have HF : Hid (PutR w x (some ⟨g2, 0, none⟩) d2 (o ++ [y]) W2) := hP7
        clear hP5 hY5 hb5 hP7 ho2
        go_wp2_with (first | (at_builtin; refine lwpList_append_run rfl _ _ 38 38 rfl _ _ rfl rfl _ _ hr2 ?_; clear hr2) | go_in)
        go_roundw
        case rel =>
         have hs : putAll x (S.take (k + 1)) = ((o ++ [y]), true) := by rw [HST.out]; simp [putStep, HE.out, HT.out]
         exact ⟨k + 1, (some ⟨g2, 0, none⟩), d2, (o ++ [y]), true, by omega, by go_num, rfl, by simp, HF.out, hs⟩
        case measure => simp [intOf]; omega
     ·have e1 : (y.1.1 == x.1.1) = false := by simpa using ht
      clear ht hsm hne
      cases hl : ltP x.1 y.1 with
      | false =>
       rw [hl] at C
       have HL : Hid (ltP x.1 y.1 = false) := hl
       clear hl
       by_cases hat : y.2 = x.2
       ·have hab : (y.2 != x.2) = false := by simp [hat]
        have hq := fun W => neqA y.2 x.2 W
        rw [hab] at hq
        have HT : Hid ((y.2 != x.2) = false) := hab
        clear hab
        clear hat
        go_wp2_with fail
        refine C.mono ?_
        rintro e w5 ⟨rfl, hb5⟩
        have hP5 := HP.out.below hb5
        have hY5 := HY.out.below hb5 HY.out.lt
        obtain ⟨x0, x1, x2, x3⟩ := hP5.bx.four
        obtain ⟨y0, y1, y2, y3⟩ := hY5.four
        have HF : Hid (PutR w x b dd o w5) := hP5
        clear hP5 hY5 hb5
        go_wp2
        go_roundw
        case rel =>
         have hs : putAll x (S.take (k + 1)) = (o, true) := by rw [HST.out]; simp [putStep, HE.out, HT.out]
         exact ⟨k + 1, b, dd, o, true, by omega, by go_num, rfl, by simp, HF.out, hs⟩
        case measure => simp [intOf]; omega
       ·have hab : (y.2 != x.2) = true := by simpa using hat
        have hq := fun W => neqA y.2 x.2 W
        rw [hab] at hq
        have HT : Hid ((y.2 != x.2) = true) := hab
        clear hab
        clear hat
        go_wp2_with fail
        refine C.mono ?_
        rintro e w5 ⟨rfl, hb5⟩
        have hP5 := HP.out.below hb5
        have hY5 := HY.out.below hb5 HY.out.lt
        obtain ⟨x0, x1, x2, x3⟩ := hP5.bx.four
        obtain ⟨y0, y1, y2, y3⟩ := hY5.four
        obtain ⟨g2, d2, W2, hr2, hP7, ho2⟩ := hP5.app y (by omega)
        have HF : Hid (PutR w x (some ⟨g2, 0, none⟩) d2 (o ++ [y]) W2) := hP7
        clear hP5 hY5 hb5 hP7 ho2
        go_wp2_with (first | (at_builtin; refine lwpList_append_run rfl _ _ 38 38 rfl _ _ rfl rfl _ _ hr2 ?_; clear hr2) | go_in)
        go_roundw
        case rel =>
         have hs : putAll x (S.take (k + 1)) = ((o ++ [y]), true) := by rw [HST.out]; simp [putStep, HE.out, HT.out]
         exact ⟨k + 1, (some ⟨g2, 0, none⟩), d2, (o ++ [y]), true, by omega, by go_num, rfl, by simp, HF.out, hs⟩
        case measure => simp [intOf]; omega
      | true =>
       rw [hl] at C
       have HL : Hid (ltP x.1 y.1 = true) := hl
       clear hl
       by_cases hat : y.2 = x.2
       ·have hab : (y.2 != x.2) = false := by simp [hat]
        have hq := fun W => neqA y.2 x.2 W
        rw [hab] at hq
        have HT : Hid ((y.2 != x.2) = false) := hab
        clear hab
        clear hat
        go_wp2_with fail
        refine C.mono ?_
        rintro e w5 ⟨rfl, hb5⟩
        have hP5 := HP.out.below hb5
        have hY5 := HY.out.below hb5 HY.out.lt
        obtain ⟨x0, x1, x2, x3⟩ := hP5.bx.four
        obtain ⟨y0, y1, y2, y3⟩ := hY5.four
        have HF : Hid (PutR w x b dd o w5) := hP5
        clear hP5 hY5 hb5
        go_wp2
        go_roundw
        case rel =>
         have hs : putAll x (S.take (k + 1)) = (o, true) := by rw [HST.out]; simp [putStep, HE.out, HT.out]
         exact ⟨k + 1, b, dd, o, true, by omega, by go_num, rfl, by simp, HF.out, hs⟩
        case measure => simp [intOf]; omega
       ·have hab : (y.2 != x.2) = true := by simpa using hat
        have hq := fun W => neqA y.2 x.2 W
        rw [hab] at hq
        have HT : Hid ((y.2 != x.2) = true) := hab
        clear hab
        clear hat
        go_wp2_with fail
        refine C.mono ?_
        rintro e w5 ⟨rfl, hb5⟩
        have hP5 := HP.out.below hb5
        have hY5 := HY.out.below hb5 HY.out.lt
        obtain ⟨x0, x1, x2, x3⟩ := hP5.bx.four
        obtain ⟨y0, y1, y2, y3⟩ := hY5.four
        obtain ⟨g2, d2, W2, hr2, hP7, ho2⟩ := hP5.app y (by omega)
        have HF : Hid (PutR w x (some ⟨g2, 0, none⟩) d2 (o ++ [y]) W2) := hP7
        clear hP5 hY5 hb5 hP7 ho2
        go_wp2_with (first | (at_builtin; refine lwpList_append_run rfl _ _ 38 38 rfl _ _ rfl rfl _ _ hr2 ?_; clear hr2) | go_in)
        go_roundw
        case rel =>
         have hs : putAll x (S.take (k + 1)) = ((o ++ [y]), true) := by rw [HST.out]; simp [putStep, HE.out, HT.out]
         exact ⟨k + 1, (some ⟨g2, 0, none⟩), d2, (o ++ [y]), true, by omega, by go_num, rfl, by simp, HF.out, hs⟩
        case measure => simp [intOf]; omega
  ·have hge : (S.length : Int) ≤ k := by omega
   have hkn : k = S.length := by omega
   have hput : putS S x = if d then o else o ++ [x] := by
    unfold putS
    rw [hkn, List.take_length] at hod
    rw [hod]
   have hgd := HG.out.1.put HG.out.2
   rw [hput] at hgd
   cases d with
   | true =>
    rw [if_pos rfl] at hgd hput
    have HPS : Hid (putS S x = o) := hput
    have HF : Hid (LmN w.heap.size (wr.setCell ⟨r, 0, none⟩ (.slice b o.length dd)) r o ∧ Out (fun k => k = r) w (wr.setCell ⟨r, 0, none⟩ (.slice b o.length dd))) := hP.done HR.out.1 hgd
    have f0 := (HR.out.1.below hP.bel HR.out.1.lt).frozen 0
    clear hP hod hput hgd hkn c0'
    go_wp2
    first | go_end0 | refine bodyPost_ret (results_none rfl _ _ _) rfl ?_
    exact ⟨rfl, by rw [HPS.out]; exact HF.out⟩
   | false =>
    rw [if_neg (by simp)] at hgd hput
    have HPS : Hid (putS S x = o ++ [x]) := hput
    obtain ⟨x0, x1, x2, x3⟩ := hP.bx.four
    obtain ⟨g2, d2, W2, hr2, hP7, ho2⟩ := hP.app x (by omega)
    have hbr := HR.out.1.below hP7.bel HR.out.1.lt
    have f0 := hbr.frozen 0
    have q0 := hbr.cell 0
    simp only [List.getElem?_cons_zero] at q0
    have hF := hP7.done HR.out.1 hgd
    rw [List.length_append] at hF
    simp only [List.length_cons, List.length_nil, Nat.zero_add] at hF
    have HF : Hid (LmN w.heap.size (W2.setCell ⟨r, 0, none⟩ (.slice (some ⟨g2, 0, none⟩) (o.length + 1) d2)) r (o ++ [x]) ∧ Out (fun k => k = r) w (W2.setCell ⟨r, 0, none⟩ (.slice (some ⟨g2, 0, none⟩) (o.length + 1) d2))) := hF
    clear hP hod hput hgd hkn c0' hP7 ho2 hF hbr
    go_wp2_with (first | (at_builtin; refine lwpList_append_run rfl _ _ 38 38 rfl _ _ rfl rfl _ _ hr2 ?_; clear hr2) | go_in)
    first | go_end0 | refine bodyPost_ret (results_none rfl _ _ _) rfl ?_
    exact ⟨rfl, by rw [HPS.out]; exact HF.out⟩
end Go.Proofs.YtncnkpnfmbgifaaGreat
