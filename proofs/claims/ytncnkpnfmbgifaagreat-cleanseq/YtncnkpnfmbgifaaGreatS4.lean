/- Texts of this seat, one behind the other: ClW, ClC. -/
import Derived.Test.YtncnkpnfmbgifaaGreatQ21
import Derived.Test.YtncnkpnfmbgifaaGreatS3
import Derived.Test.YtncnkpnfmbgifaaGreatQ15
import Derived.Test.YtncnkpnfmbgifaaGreatQ9
import Derived.Maps.OwnOps
import Derived.Test.YtncnkpnfmbgifaaGreatP24
/- What one call of clean's worths and Pick does. -/
namespace Go.Proofs.YtncnkpnfmbgifaaGreat
open Go.RowKit Ieee
set_option linter.unusedVariables false
set_option maxRecDepth 4000

def LvM (w : World) (b n : Nat) (f : Int → Int) : Prop :=
 ∃ D : DataW Value, w.ownsMap Tryz.prog 3 (plainElem Tryz.prog 3) b n D ∧ ∀ x, I64 x → D.atKey (.int .i64 x) (.lit (.int .i64 0)) = .lit (.int .i64 (f x))
theorem Tryz.zeroInt (w : World) : (zeroValue 3).run Tryz.prog w = .ok (.int .i64 0) w := by kernel_rfl
theorem Tryz.keyedInt : Maps.Keyed Tryz.prog 3 := Maps.int_keyed Tryz.underlying3
theorem keyInt {x : Int} (h : I64 x) : keyOf Tryz.prog 3 (.int .i64 x) = some (.int .i64 x) := Maps.keyOf_int_mk Tryz.underlying3 (WalkArith.wf_i64 (by unfold I64 at h; omega))
section
variable {w w' : World} {b n : Nat} {f : Int → Int}
theorem LvM.same (h : LvM w b n f) (hs : w'.heap[b]? = w.heap[b]?) : LvM w' b n f := by obtain ⟨D, h1, h2⟩ := h; exact ⟨D, owns_same h1 hs, h2⟩
theorem LvM.lt (h : LvM w b n f) : b < w.heap.size := by obtain ⟨D, h1, _⟩ := h; exact h1.lt
theorem LvM.below (h : LvM w b n f) (hb : Below w.heap.size w w') : LvM w' b n f := h.same (hb.block b h.lt)
theorem LvM.made (w : World) : LvM (w.alloc (.map #[] 0)) w.heap.size 0 (fun _ => 0) := ⟨.map [], World.ownsMap_made w _ _ _, fun _ _ => rfl⟩
theorem LvM.look (h : LvM w b n f) {x : Int} (hx : I64 x) : (Instr.lookup 147 (.map (some b)) (.int .i64 x) false).run Tryz.prog w = .ok (.int .i64 (f x)) w := by
 obtain ⟨D, h1, h2⟩ := h
 obtain ⟨c, hrun, hat, _⟩ := h1.lookup_int Tryz.keyedInt Tryz.underlying147 Tryz.underlying3 (Tryz.zeroInt w) (keyInt hx)
 rw [h2 x hx] at hat
 injection hat with hat
 injection hat with _ hat
 rw [hrun, hat]
theorem LvM.put (h : LvM w b n f) (hn : n < 100000) {x : Int} (hx : I64 x) {v : Int} (hv : I64 v) :
  ∃ w', (Instr.mapUpdate 147 (.map (some b)) (.int .i64 x) (.int .i64 v)).run Tryz.prog w = .ok () w' ∧ (∀ f' : Int → Int, f' x = v → (∀ y, I64 y → y ≠ x → f' y = f y) → LvM w' b (n + 1) f') ∧ Out (fun k => k = b) w w' := by
 obtain ⟨D, h1, h2⟩ := h
 obtain ⟨w', hrun, r1, r2⟩ := h1.update Tryz.keyedInt Tryz.underlying147 (show n < maxLen by unfold maxLen; omega) (keyInt hx) (val := .int .i64 v) (d := .lit (.int .i64 v)) (ps := []) (plainElem_int Tryz.underlying3 (WalkArith.wf_i64 (by unfold I64 at hv; omega)))
 have hkl : WideAt.IsKeyLit (.int .i64 x) := Tryz.keyedInt.key (keyInt hx)
 refine ⟨w', hrun, fun f' e1 e2 => ⟨_, r1, fun y hy => ?_⟩, ⟨r2.os, r2.tape, r2.output, r2.size, fun k hk hne => r2.block k hk (by simpa using hne)⟩⟩
 by_cases he : y = x
 ·rw [he, e1]; exact Maps.atKey_put_same h1.isMap hkl _ _
 ·have hne : Lit.int .i64 y ≠ Lit.int .i64 x := fun e => he (by injection e)
  rw [Maps.atKey_put_other hne, e2 y hy he]
  exact h2 y hy
end
theorem LvM.no_cell {w : World} {b n : Nat} {f : Int → Int} (h : LvM w b n f) {i : Nat} {v : Value} : w.cell? ⟨b, i, none⟩ ≠ some v := by
 obtain ⟨D, ⟨es, clock, hb', _⟩, _⟩ := h
 simp [World.cell?, hb']
theorem PlIn.off {w w' : World} {b n m : Nat} {f : Int → Int} {a : Option Addr} {L : List Pl} (h : PlIn w a n L) (hm : LvM w b m f) (ho : Out (fun k => k = b) w w') : PlIn w' a n L := by
 obtain ⟨h1, h2⟩ := h
 refine ⟨h1, h2.imp id ?_⟩
 rintro ⟨g, rfl, hc⟩
 refine ⟨g, rfl, fun i x hx => ?_⟩
 have hg := (hc i x hx).1
 have hne : g ≠ b := fun e => hm.no_cell (by rw [← e]; exact hg)
 have hk := ho.block g (old_block hg) hne
 have e : ∀ j, w'.cell? ⟨g, j, none⟩ = w.cell? ⟨g, j, none⟩ := fun j => by simp only [World.cell?, hk]
 rw [e, e, e, e]
 exact hc i x hx
theorem live_snoc {S : List Pl} {i : Nat} {x : Pl} (h : S[i]? = some x) (z : Int) : liveN (S.take (i + 1)) z = liveN (S.take i) z + (if z = x.2.1 then 1 else 0) := by
 unfold liveN
 rw [take_snoc h, List.filter_append, List.length_append]
 congr 1
 by_cases e : x.2.1 = z
 ·simp [e]
 ·rw [if_neg (fun h => e h.symm)]; simp [e]
theorem made_f64 (n : Nat) (w : World) : Blk (w.alloc (.cells (madeCells #[.float .f64 0] n) 89)) w.heap.size (fvs (List.replicate n 0)) 89 := by
 refine Blk.new' rfl ?_
 apply Array.ext'
 rw [toList_madeCells_one]
 simp [fvs]
section
variable {D : Nat → Prop} {W : World} {k : Bs} {st : St} {c : Nat}
set_option maxHeartbeats 4000000 in
theorem worths_of (h : StV D W k st c) (hi2 : Inv2 st) (hc : c < 10000) (hS : st.S.length ≤ 10000) :
  Calls Tryz.prog 38 #[.pointer (some ⟨k.ps, 0, none⟩)] W fun e w' => ∃ a n cc zs, e = .returned (.slice a n cc) ∧ FIn w' a n zs ∧ WzIs st zs ∧ Below W.heap.size W w' := by
 have hmm := @run_makeMap Tryz.prog
 have hsf := fun (p : Addr) (x : Nat) (mo : Mode) (V : World) => run_store Tryz.prog V p (.float .f64 x) mo rfl
 have H : Hid (StV D W k st c) := h
 have hrs := hi2.inv.wf.right
 obtain ⟨Zn, hZn⟩ : ∃ Zn : Nat, st.s.z = Zn := ⟨st.s.z.toNat, by have := hrs.1; omega⟩
 have hZ2 : 6 ≤ Zn ∧ Zn ≤ 256 := by have := hrs.1; have := hrs.2.1; omega
 have hlen : st.L.length = Zn := by have := hi2.inv.len; have := hi2.inv.wf.len; omega
 have HI : Hid (Inv2 st ∧ st.s.z = Zn ∧ st.L.length = Zn) := ⟨hi2, hZn, hlen⟩
 have hmk := run_make_row' (P := Tryz.prog) 78 89 (.float .f64 0) 8 Tryz.underlying78 Tryz.zero_f64 rfl .i64 .i64 Zn (by omega) (by omega)
 clear hi2 hrs hZn hlen
 have HM : Hid (∀ V, Below W.heap.size W V → Calls Tryz.prog 19 #[.pointer (some ⟨k.ps, 0, none⟩)] V fun e w' => e = .returned (.pointer (some ⟨k.pm, 0, none⟩)) ∧ w' = V) := fun V hb => smap_of (h.under hb)
 have HA : Hid (∀ V, Below W.heap.size W V → Calls Tryz.prog 20 #[.pointer (some ⟨k.pm, 0, none⟩)] V fun e X => ∃ a cc, e = .returned (.slice a st.S.length cc) ∧ PlIn X a st.S.length st.S ∧ Below V.heap.size V X) := fun V hb => by
  refine (mAll_of k.pm k.b1 k.b2 st.S c V (h.under hb).mp (by omega)).mono ?_
  rintro e X ⟨a, n, cc, rfl, ow, hX⟩
  have hp := own_pl ow
  have hn := hp.1
  subst hn
  exact ⟨a, cc, rfl, hp, hX⟩
 have hb0 : Below W.heap.size W (W.alloc (.map #[] 0)) := (Below.refl _ _).alloc (Nat.le_refl _) _
 have hl0 := LvM.made W
 clear h
 go_enter Tryz.func38, Tryz.ntmps38
 go_wp2_with (first
  | (go_at_call 19; refine (HM.out _ hb0).mono ?_; rintro e W1 ⟨rfl, rfl⟩)
  | (go_at_call 20; refine (HA.out _ hb0).mono ?_; rintro e V ⟨a, cc, rfl, pl, hb1⟩))
 have HB1 : Hid (Below W.heap.size W V ∧ LvM V W.heap.size 0 (fun z => (liveN (st.S.take 0) z : Nat)) ∧ PlIn V a st.S.length st.S) := ⟨hb0.trans (hb1.mono hb0.size), hl0.below hb1, pl⟩
 clear hb0 hl0 hb1 pl
 obtain ⟨N, hN⟩ : ∃ N, N = st.S.length := ⟨_, rfl⟩
 obtain ⟨q, hq⟩ : ∃ q, q = W.heap.size := ⟨_, rfl⟩
 have HQ : Hid (q = W.heap.size ∧ N = st.S.length ∧ N ≤ 10000) := ⟨hq, hN, by omega⟩
 rw [← hN, ← hq] at HB1 ⊢
 clear hN hq hS
 go_loopw [14] (fun x wr => ∃ i : Nat, x = .int .i64 i ∧ i ≤ N ∧ Below W.heap.size W wr ∧ LvM wr q i (fun z => (liveN (st.S.take i) z : Nat)) ∧ PlIn wr a N st.S) (fun x _ => N - (intOf x).toNat)
 case atStart => exact ⟨0, rfl, Nat.zero_le _, by rw [HQ.out.1] at HB1; exact HB1.out.1, HB1.out.2.1, HB1.out.2.2⟩
 case round =>
  obtain ⟨i, rfl, hi, hb, hl, pl⟩ := hrel
  have hqn := HQ.out.2.2
  rcases Nat.lt_or_ge i N with hlt | hge
  ·have hi' : (i : Int) < N := by omega
   have hwi : IntKind.i64.wrap ((i : Int) + 1) = (i : Int) + 1 := by rw [IntKind.wrap_i64]; omega
   obtain ⟨x, g, hx, rfl, y0, y1, y2, y3⟩ := pl.at hlt
   have hfx : I64 x.2.1 := (H.out.mp.good.fits x (List.mem_of_getElem? hx)).2.1
   have ba : Below wr.heap.size wr (wr.alloc (.cells #[.int .u32 x.1.1, .int .u64 x.1.2, .int .i64 x.2.1, .int .i64 x.2.2] 51)) := (Below.refl _ _).alloc (Nat.le_refl _) _
   obtain ⟨m, hm⟩ : ∃ m, m = liveN (st.S.take i) x.2.1 := ⟨_, rfl⟩
   have hmi : m ≤ i := by rw [hm]; unfold liveN; exact Nat.le_trans (List.length_filter_le _ _) (by rw [List.length_take]; omega)
   have hlk := (hl.below ba).look hfx
   simp only [← hm] at hlk
   have hwm : IntKind.i64.wrap ((m : Int) + 1) = (m : Int) + 1 := by rw [IntKind.wrap_i64]; omega
   obtain ⟨w9, hpu, hp1, hp2⟩ := (hl.below ba).put (by omega) hfx (v := (m : Int) + 1) (by unfold I64; omega)
   have H9 : Hid (Below W.heap.size W w9 ∧ LvM w9 q (i + 1) (fun z => (liveN (st.S.take (i + 1)) z : Nat)) ∧ PlIn w9 (some ⟨g, 0, none⟩) N st.S) := by
    have hbq := hb.size
    refine ⟨(hb.alloc hb.size _).trans (hp2.below (by simp; omega) (fun j hj => by rw [hj, HQ.out.1]; exact Nat.le_refl _)), hp1 _ ?_ (fun y hy hne => ?_), (pl.below ba).off (hl.below ba) hp2⟩
    ·simp only [live_snoc hx, hm, if_true]
     omega
    ·simp only [live_snoc hx, if_neg hne]
     omega
   clear hl hb pl hx hp1 hp2 ba hm
   go_wp2
   go_roundw
   case rel => exact ⟨i + 1, by simp, by omega, H9.out⟩
   case measure => simp [intOf]; omega
  ·obtain rfl : i = N := by omega
   have HB2 : Hid (Below W.heap.size W wr ∧ LvM wr q i (fun z => (liveN st.S z : Nat))) := by
    rw [List.take_of_length_le (by have := HQ.out.2.1; omega)] at hl
    exact ⟨hb, hl⟩
   clear hl hb pl
   have HSh : Hid (∀ V, Below W.heap.size W V → Calls Tryz.prog 54 #[.pointer (some ⟨k.pd, 0, none⟩)] V fun e w' => e = .returned (.agg #[.int .i64 (Zn : Nat), .int .i64 st.s.zb, .int .i64 st.s.b, .int .i64 st.s.r]) ∧ Below V.heap.size V w') := fun V hb => by
    rw [← HI.out.2.1]; exact dshape_of (H.out.under hb).dv
   go_wp2_with (first
    | (go_at_call 25; refine (sdev_of (H.out.under HB2.out.1)).mono ?_; rintro e W2 ⟨rfl, rfl⟩)
    | (go_at_call 54; refine (HSh.out _ HB2.out.1).mono ?_; rintro e W3 ⟨rfl, b3⟩))
   have H3 : Hid (Below W.heap.size W (W3.alloc (.cells #[.int .i64 (Zn : Nat), .int .i64 st.s.zb, .int .i64 st.s.b, .int .i64 st.s.r] 23)) ∧ LvM (W3.alloc (.cells #[.int .i64 (Zn : Nat), .int .i64 st.s.zb, .int .i64 st.s.b, .int .i64 st.s.r] 23)) q i (fun z => (liveN st.S z : Nat)) ∧ Blk (W3.alloc (.cells #[.int .i64 (Zn : Nat), .int .i64 st.s.zb, .int .i64 st.s.b, .int .i64 st.s.r] 23)) W3.heap.size [.int .i64 (Zn : Nat), .int .i64 st.s.zb, .int .i64 st.s.b, .int .i64 st.s.r] 23 ∧ (W3.alloc (.cells #[.int .i64 (Zn : Nat), .int .i64 st.s.zb, .int .i64 st.s.b, .int .i64 st.s.r] 23)).heap.size = W3.heap.size + 1) := by
    have ba : Below W3.heap.size W3 (W3.alloc (.cells #[.int .i64 (Zn : Nat), .int .i64 st.s.zb, .int .i64 st.s.b, .int .i64 st.s.r] 23)) := (Below.refl _ _).alloc (Nat.le_refl _) _
    have hW := HB2.out.1.trans (b3.mono HB2.out.1.size)
    exact ⟨hW.trans (ba.mono hW.size), (HB2.out.2.below b3).below ba, Blk.new' rfl rfl, by simp⟩
   clear b3 HB2
   generalize World.alloc W3 _ = V3 at H3 ⊢
   generalize W3.heap.size = ga at H3 ⊢
   have H4 : Hid (Below W.heap.size W (V3.alloc (.cells (madeCells #[.float .f64 0] Zn) 89)) ∧ LvM (V3.alloc (.cells (madeCells #[.float .f64 0] Zn) 89)) q i (fun z => (liveN st.S z : Nat)) ∧ Blk (V3.alloc (.cells (madeCells #[.float .f64 0] Zn) 89)) ga [.int .i64 (Zn : Nat), .int .i64 st.s.zb, .int .i64 st.s.b, .int .i64 st.s.r] 23 ∧ Blk (V3.alloc (.cells (madeCells #[.float .f64 0] Zn) 89)) (ga + 1) (fvs (List.replicate Zn 0)) 89 ∧ W.heap.size ≤ ga + 1) := by
    have ba : Below V3.heap.size V3 (V3.alloc (.cells (madeCells #[.float .f64 0] Zn) 89)) := (Below.refl _ _).alloc (Nat.le_refl _) _
    exact ⟨H3.out.1.trans (ba.mono H3.out.1.size), H3.out.2.1.below ba, H3.out.2.2.1.below ba H3.out.2.2.1.lt, by have := made_f64 Zn V3; rw [H3.out.2.2.2] at this; exact this, by have := H3.out.1.size; have := H3.out.2.2.2; omega⟩
   clear H3
   generalize World.alloc V3 _ = V4 at H4 ⊢
   generalize ga + 1 = o at H4 ⊢
   have HO : Hid (W.heap.size ≤ o ∧ q = W.heap.size ∧ Below W.heap.size W V4) := ⟨H4.out.2.2.2.2, HQ.out.1, H4.out.1⟩
   have hNZ : (Zn : Int) ≤ 256 := by omega
   go_loopw [33] (fun x wr => ∃ (j : Nat) (zs : List Nat), x = .int .i64 j ∧ j ≤ Zn ∧ zs.length = Zn ∧ (∀ z ∈ zs, z < 2 ^ 64) ∧ (∀ m, m < j → Cls (wzC st m) (zs.getD m 0)) ∧ Below W.heap.size W wr ∧ LvM wr q i (fun z => (liveN st.S z : Nat)) ∧ Blk wr ga [.int .i64 (Zn : Nat), .int .i64 st.s.zb, .int .i64 st.s.b, .int .i64 st.s.r] 23 ∧ Blk wr o (fvs zs) 89) (fun x _ => Zn - (intOf x).toNat)
   case atStart => exact ⟨0, List.replicate Zn 0, rfl, Nat.zero_le _, by simp, fun z hz => by rw [(List.mem_replicate.1 hz).2]; decide, fun m hm => by omega, H4.out.1, H4.out.2.1, H4.out.2.2.1, H4.out.2.2.2.1⟩
   case round =>
    obtain ⟨j, zs, rfl, hj, hzl, hzb, hcl, hb, hl, hg, ho⟩ := hrel
    rcases Nat.lt_or_ge j Zn with hlt | hge
    ·have hj' : (j : Int) < Zn := by omega
     have hwj : IntKind.i64.wrap ((j : Int) + 1) = (j : Int) + 1 := by rw [IntKind.wrap_i64]; omega
     have yo : ∃ y, wr.cell? ⟨o, j, none⟩ = some (.float .f64 y) := ⟨zs.getD j 0, by rw [ho.cell]; simp [fvs, List.getD, show j < zs.length by omega]⟩
     obtain ⟨y, yo⟩ := yo
     have yf := ho.frozen j
     have hst := fun V (hb : Below W.heap.size W V) => gState_of k.pg k.gg st.s.r st.L (j : Nat) V (H.out.under hb).sg
     simp only [stZ_nat] at hst
     have HSt : Hid (∀ V, Below W.heap.size W V → Calls Tryz.prog 24 #[.pointer (some ⟨k.pg, 0, none⟩), .int .i64 (j : Nat)] V fun e w' => e = .returned (.int .u8 (st.L.getD j 0)) ∧ w' = V) := hst
     have HSg : Hid (∀ V, Below W.heap.size W V → Calls Tryz.prog 23 #[.pointer (some ⟨k.ps, 0, none⟩)] V fun e w' => e = .returned (.pointer (some ⟨k.pg, 0, none⟩)) ∧ w' = V) := fun V hb => sseg_of (H.out.under hb)
     -- the world with no number there
     have one : ∀ (X : World) (z : Nat), Below W.heap.size W X → LvM X q i (fun z => (liveN st.S z : Nat)) → Blk X ga [.int .i64 (Zn : Nat), .int .i64 st.s.zb, .int .i64 st.s.b, .int .i64 st.s.r] 23 → ∀ ys, Blk X o (fvs ys) 89 → Below W.heap.size W (X.setCell ⟨o, j, none⟩ (.float .f64 z)) ∧ LvM (X.setCell ⟨o, j, none⟩ (.float .f64 z)) q i (fun z => (liveN st.S z : Nat)) ∧ Blk (X.setCell ⟨o, j, none⟩ (.float .f64 z)) ga [.int .i64 (Zn : Nat), .int .i64 st.s.zb, .int .i64 st.s.b, .int .i64 st.s.r] 23 ∧ Blk (X.setCell ⟨o, j, none⟩ (.float .f64 z)) o (fvs (ys.set j z)) 89 := by
      intro X z h1 h2 h3 ys h4
      have hu := out_one X o j (.float .f64 z)
      have hne : ga ≠ o := blk_ne' h3 h4 (by decide)
      have hq : q ≠ o := fun e => by
       obtain ⟨D, ⟨es, clock, hb', _⟩, _⟩ := h2
       unfold Blk at h4
       rw [← e, hb'] at h4
       cases h4
      refine ⟨h1.trans (hu.below h1.size (fun j hj => by rw [hj]; exact HO.out.1)), h2.same (hu.block q h2.lt hq), hu.blk h3 hne, ?_⟩
      have := h4.set j (.float .f64 z)
      rw [show (fvs ys).set j (.float .f64 z) = fvs (ys.set j z) by simp [fvs, List.map_set]] at this
      exact this
     have HN : Hid (∀ z, Below W.heap.size W (wr.setCell ⟨o, j, none⟩ (.float .f64 z)) ∧ LvM (wr.setCell ⟨o, j, none⟩ (.float .f64 z)) q i (fun z => (liveN st.S z : Nat)) ∧ Blk (wr.setCell ⟨o, j, none⟩ (.float .f64 z)) ga [.int .i64 (Zn : Nat), .int .i64 st.s.zb, .int .i64 st.s.b, .int .i64 st.s.r] 23 ∧ Blk (wr.setCell ⟨o, j, none⟩ (.float .f64 z)) o (fvs (zs.set j z)) 89) := fun z => one wr z hb hl hg _ ho
     have HOne : Hid (∀ (X : World) (z : Nat), Below W.heap.size W X → LvM X q i (fun z => (liveN st.S z : Nat)) → Blk X ga [.int .i64 (Zn : Nat), .int .i64 st.s.zb, .int .i64 st.s.b, .int .i64 st.s.r] 23 → ∀ ys, Blk X o (fvs ys) 89 → Below W.heap.size W (X.setCell ⟨o, j, none⟩ (.float .f64 z)) ∧ LvM (X.setCell ⟨o, j, none⟩ (.float .f64 z)) q i (fun z => (liveN st.S z : Nat)) ∧ Blk (X.setCell ⟨o, j, none⟩ (.float .f64 z)) ga [.int .i64 (Zn : Nat), .int .i64 st.s.zb, .int .i64 st.s.b, .int .i64 st.s.r] 23 ∧ Blk (X.setCell ⟨o, j, none⟩ (.float .f64 z)) o (fvs (ys.set j z)) 89) := one
     have HZ : Hid (zs.length = Zn ∧ (∀ z ∈ zs, z < 2 ^ 64) ∧ (∀ m, m < j → Cls (wzC st m) (zs.getD m 0))) := ⟨hzl, hzb, hcl⟩
     clear hst one hb hl hg ho hzl hzb hcl
     go_wp2_with (go_at_call 81; refine (nanv_of _).mono ?_; rintro e wr ⟨rfl, rfl⟩)
     have H5 : Hid (Below W.heap.size W (wr.setCell ⟨o, j, none⟩ (.float .f64 9221120237041090561)) ∧ LvM (wr.setCell ⟨o, j, none⟩ (.float .f64 9221120237041090561)) q i (fun z => (liveN st.S z : Nat)) ∧ Blk (wr.setCell ⟨o, j, none⟩ (.float .f64 9221120237041090561)) ga [.int .i64 (Zn : Nat), .int .i64 st.s.zb, .int .i64 st.s.b, .int .i64 st.s.r] 23 ∧ Blk (wr.setCell ⟨o, j, none⟩ (.float .f64 9221120237041090561)) o (fvs (zs.set j 9221120237041090561)) 89) := HN.out _
     clear yo yf HN
     generalize World.setCell wr _ _ = V5 at H5 ⊢
     have HZ2 : Hid (∀ z, z < 2 ^ 64 → Cls (wzC st j) z → (zs.set j z).length = Zn ∧ (∀ y ∈ zs.set j z, y < 2 ^ 64) ∧ (∀ m, m < j + 1 → Cls (wzC st m) ((zs.set j z).getD m 0))) := fun z hz hc => by
      refine ⟨by rw [List.length_set]; exact HZ.out.1, fun y hy => ?_, fun m hm => ?_⟩
      ·rcases List.mem_or_eq_of_mem_set hy with h | h
       ·exact HZ.out.2.1 y h
       ·rw [h]; exact hz
      ·have hjl : j < zs.length := by rw [HZ.out.1]; exact hlt
       by_cases e : m = j
       ·subst e
        simp [List.getD, hjl, hc]
       ·have := HZ.out.2.2 m (by omega)
        simp only [List.getD_eq_getElem?_getD, List.getElem?_set_ne (fun h : j = m => e h.symm)]
        simpa [List.getD_eq_getElem?_getD] using this
     by_cases h3 : st.L.getD j 0 = 3
     ·rw [h3] at HSt
      have hzb := HI.out.1.inv.wf.right
      obtain ⟨ZB, hZB⟩ : ∃ ZB : Nat, st.s.zb = ZB := ⟨st.s.zb.toNat, by have := hzb.2.2.1; omega⟩
      obtain ⟨Q, hQ⟩ : ∃ Q, Q = st.q := ⟨_, rfl⟩
      obtain ⟨la, hla⟩ : ∃ la, la = lastI st.la (j : Nat) := ⟨_, rfl⟩
      obtain ⟨m, hm⟩ : ∃ m, m = liveN st.S (j : Nat) := ⟨_, rfl⟩
      obtain ⟨age, hage⟩ : ∃ age : Nat, (age : Int) = ageI st (j : Nat) := ⟨(ageI st (j : Nat)).toNat, by unfold ageI; omega⟩
      obtain ⟨P, hP⟩ : ∃ P, IntKind.u64.wrap (Q - la) = P := ⟨_, rfl⟩
      have hP2 : IntKind.u64.wrap (P + 1) = (age : Int) := by
       rw [hage, ← hP, hQ, hla]
       unfold ageI
       simp only [IntKind.wrap_u64]
       omega
      have HE : Hid (wzC st j = fullC m ZB age) := by
       show _ = _
       unfold wzC
       rw [if_pos h3, ← hm, hZB, ← hage]
       simp
      have hm2 : m ≤ 10000 := by
       rw [hm]; unfold liveN
       have := List.length_filter_le (fun p : Pl => p.2.1 == ((j : Nat) : Int)) st.S
       have := HQ.out.2.1
       omega
      have hag : age < 18446744073709551616 := by unfold ageI at hage; omega
      have hZ4 : ZB < 100000 := by have := hzb.2.2.2.1; omega
      have HSq : Hid (∀ V, Below W.heap.size W V → Calls Tryz.prog 30 #[.pointer (some ⟨k.ps, 0, none⟩)] V fun e w' => e = .returned (.int .u64 Q) ∧ w' = V) := fun V hb => by rw [hQ]; exact sseq_of (H.out.under hb)
      rw [hZB] at H5 HOne
      have HG : Hid (∀ V w', Below W.heap.size W V ∧ LvM V q i (fun z => (liveN st.S z : Nat)) ∧ Blk V ga [.int .i64 (Zn : Nat), .int .i64 (ZB : Nat), .int .i64 st.s.b, .int .i64 st.s.r] 23 ∧ Blk V o (fvs (zs.set j 9221120237041090561)) 89 → Below V.heap.size V w' → Below W.heap.size W w' ∧ LvM w' q i (fun z => (liveN st.S z : Nat)) ∧ Blk w' ga [.int .i64 (Zn : Nat), .int .i64 (ZB : Nat), .int .i64 st.s.b, .int .i64 st.s.r] 23 ∧ Blk w' o (fvs (zs.set j 9221120237041090561)) 89) := fun V w' g hb => ⟨g.1.trans (hb.mono g.1.size), g.2.1.below hb, g.2.2.1.below hb g.2.2.1.lt, g.2.2.2.below hb g.2.2.2.lt⟩
      have HLk : Hid (∀ V, Below W.heap.size W V ∧ LvM V q i (fun z => (liveN st.S z : Nat)) ∧ Blk V ga [.int .i64 (Zn : Nat), .int .i64 (ZB : Nat), .int .i64 st.s.b, .int .i64 st.s.r] 23 ∧ Blk V o (fvs (zs.set j 9221120237041090561)) 89 → (Instr.lookup 147 (.map (some q)) (.int .i64 (j : Nat)) false).run Tryz.prog V = .ok (.int .i64 (m : Nat)) V ∧ V.cell? ⟨ga, 1, none⟩ = some (.int .i64 (ZB : Nat)) ∧ V.frozen? ⟨o, j, none⟩ = false ∧ ∃ y, V.cell? ⟨o, j, none⟩ = some (.float .f64 y)) := fun V g => by
       refine ⟨by rw [hm]; exact g.2.1.look (by unfold I64; omega), g.2.2.1.cell 1, g.2.2.2.frozen j, (zs.set j 9221120237041090561).getD j 0, ?_⟩
       rw [g.2.2.2.cell]
       simp [fvs, List.getD, show j < zs.length by rw [HZ.out.1]; exact hlt]
      have HLa : Hid (∀ V, Below W.heap.size W V ∧ LvM V q i (fun z => (liveN st.S z : Nat)) ∧ Blk V ga [.int .i64 (Zn : Nat), .int .i64 (ZB : Nat), .int .i64 st.s.b, .int .i64 st.s.r] 23 ∧ Blk V o (fvs (zs.set j 9221120237041090561)) 89 → Calls Tryz.prog 28 #[.pointer (some ⟨k.ps, 0, none⟩), .int .i64 (j : Nat)] V fun e w' => e = .returned (.int .u64 la) ∧ Below W.heap.size W w' ∧ LvM w' q i (fun z => (liveN st.S z : Nat)) ∧ Blk w' ga [.int .i64 (Zn : Nat), .int .i64 (ZB : Nat), .int .i64 st.s.b, .int .i64 st.s.r] 23 ∧ Blk w' o (fvs (zs.set j 9221120237041090561)) 89) := fun V g => by
       rw [hla]
       exact (slast_of (j : Nat) (H.out.under g.1)).mono (fun e w' hh => ⟨hh.1, HG.out V w' g hh.2⟩)
      have HWo : Hid (∀ V, Below W.heap.size W V ∧ LvM V q i (fun z => (liveN st.S z : Nat)) ∧ Blk V ga [.int .i64 (Zn : Nat), .int .i64 (ZB : Nat), .int .i64 st.s.b, .int .i64 st.s.r] 23 ∧ Blk V o (fvs (zs.set j 9221120237041090561)) 89 → Calls Tryz.prog 83 #[.int .i64 (m : Nat), .int .i64 (ZB : Nat), .int .u64 (age : Nat)] V fun e w' => ∃ x, e = .returned (.float .f64 x) ∧ (x < 2 ^ 64 ∧ Cls (wzC st j) x) ∧ Below W.heap.size W w' ∧ LvM w' q i (fun z => (liveN st.S z : Nat)) ∧ Blk w' ga [.int .i64 (Zn : Nat), .int .i64 (ZB : Nat), .int .i64 st.s.b, .int .i64 st.s.r] 23 ∧ Blk w' o (fvs (zs.set j 9221120237041090561)) 89) := fun V g => by
       refine (cworth_of m ZB age (by omega) hZ4 hag V).mono ?_
       rintro e w' ⟨x, rfl, hx, hd⟩
       exact ⟨x, rfl, ⟨hx.1, by rw [HE.out]; exact hx⟩, HG.out V w' g (hd.below (Below.refl _ _))⟩
      have G5 : Hid (Below W.heap.size W V5.drew ∧ LvM V5.drew q i (fun z => (liveN st.S z : Nat)) ∧ Blk V5.drew ga [.int .i64 (Zn : Nat), .int .i64 (ZB : Nat), .int .i64 st.s.b, .int .i64 st.s.r] 23 ∧ Blk V5.drew o (fvs (zs.set j 9221120237041090561)) 89) := HG.out _ _ H5.out (Below.refl _ _).drew
      have lk0 := (HLk.out _ G5.out).1
      have c0 := (HLk.out _ H5.out).2.1
      have nog : ga ≠ o := blk_ne' H5.out.2.2.1 H5.out.2.2.2 (by decide)
      have HZB : Hid (st.s.zb = ZB) := hZB
      clear hzb hQ hla hm hage h3 hZB
      go_wp2_with (first
       | (go_at_call 23; refine (HSg.out _ H5.out.1).mono ?_; rintro e V5 ⟨rfl, rfl⟩)
       | (go_at_call 24; refine (HSt.out _ H5.out.1).mono ?_; rintro e V5 ⟨rfl, rfl⟩))
      go_region_held3 (fun Y => Y.cell? ⟨ga, 1, none⟩ = some (.int .i64 (ZB : Nat))) (first | exact c0 | exact lk2.2.1 | exact lk3.2.1 | exact kept_set lk3.2.1 nog)
       (first
       | (go_simp; go_at_call 30; refine (HSq.out _ G5.out.1).mono ?_; rintro e w6 ⟨rfl, rfl⟩)
       | (go_simp; go_at_call 28; refine (HLa.out _ G5.out).mono ?_; rintro e w2 ⟨rfl, g2⟩; have lk2 := HLk.out _ g2; have lk2a := lk2.1)
       | (go_simp; go_at_call 83; refine (HWo.out _ g2).mono ?_; rintro e w3 ⟨x, rfl, hx, g3⟩; have lk3 := HLk.out _ g3; obtain ⟨_, _, f3, y3, d3⟩ := HLk.out _ g3))
      all_goals (
       have H9 : Hid ((∃ zs' : List Nat, zs'.length = Zn ∧ (∀ y ∈ zs', y < 2 ^ 64) ∧ (∀ m, m < j + 1 → Cls (wzC st m) (zs'.getD m 0)) ∧ Below W.heap.size W (w3.setCell ⟨o, j, none⟩ (.float .f64 x)) ∧ LvM (w3.setCell ⟨o, j, none⟩ (.float .f64 x)) q i (fun z => (liveN st.S z : Nat)) ∧ Blk (w3.setCell ⟨o, j, none⟩ (.float .f64 x)) ga [.int .i64 (Zn : Nat), .int .i64 (ZB : Nat), .int .i64 st.s.b, .int .i64 st.s.r] 23 ∧ Blk (w3.setCell ⟨o, j, none⟩ (.float .f64 x)) o (fvs zs') 89) ∧ st.s.zb = ZB) := by
        obtain ⟨e1, e2, e3⟩ := HZ2.out x hx.1 hx.2
        obtain ⟨r1, r2, r3, r4⟩ := HOne.out w3 x g3.1 g3.2.1 g3.2.2.1 _ g3.2.2.2
        rw [List.set_set] at r4
        exact ⟨⟨_, e1, e2, e3, r1, r2, r3, r4⟩, HZB.out⟩
       clear lk0 lk2 lk2a lk3 c0 nog f3 d3 g2 g3 hx
       go_wp2
       all_goals (
        go_roundw
        case rel =>
         obtain ⟨⟨zs', e1, e2, e3, e4⟩, e5⟩ := H9.out
         rw [← e5] at e4
         exact ⟨j + 1, zs', by simp, by omega, e1, e2, e3, e4⟩
        case measure => simp [intOf]; omega))
     ·have h3' : (st.L.getD j 0 == 3) = false := by simpa using h3
      have HE : Hid (wzC st j = none) := by show _ = _; unfold wzC; rw [if_neg h3]
      generalize st.L.getD j 0 = S at HSt h3'
      clear h3
      go_wp2_with (first
       | (go_at_call 23; refine (HSg.out _ H5.out.1).mono ?_; rintro e V5 ⟨rfl, rfl⟩)
       | (go_at_call 24; refine (HSt.out _ H5.out.1).mono ?_; rintro e V5 ⟨rfl, rfl⟩))
      go_roundw
      case rel =>
       obtain ⟨e1, e2, e3⟩ := HZ2.out 9221120237041090561 (by decide) (by rw [HE.out]; exact ⟨by decide, nan_can⟩)
       exact ⟨j + 1, _, by simp, by omega, e1, e2, e3, H5.out⟩
      case measure => simp [intOf]; omega
    ·obtain rfl : j = Zn := by omega
     have HF : Hid (FIn wr (some ⟨o, 0, none⟩) j zs ∧ WzIs st zs ∧ Below W.heap.size W wr) := by
      refine ⟨⟨hzl, by unfold maxLen; omega, hzb, .inr ⟨o, 0, rfl, fun m hm => ?_⟩⟩, ⟨by rw [hzl, HI.out.2.2], fun m hm => hcl m (by rw [HI.out.2.2] at hm; exact hm)⟩, hb⟩
      rw [Nat.zero_add, ho.cell]
      simp [fvs, List.getD, show m < zs.length by omega]
     clear hb hl hg ho hzl hzb hcl
     go_wp2
     go_ret
     exact ⟨_, _, _, zs, rfl, HF.out.1, HF.out.2.1, HF.out.2.2⟩
set_option maxHeartbeats 1000000 in
theorem cpick_of (h : StV D W k st c) (hi : Inv2 st) (hz : Sml st.s) (hc : c < 10000) :
  Calls Tryz.prog 12 #[.pointer (some ⟨k.ps, 0, none⟩)] W fun e w' => e = .returned (.int .i64 (pickM st)) ∧ Below W.heap.size W w' := by
 have hS := size_S hi.inv hz
 have hr := hi.inv.wf.right
 have hl : st.L.length ≤ 256 := by have := hi.inv.len; have := hi.inv.wf.len; have := hr.2.1; omega
 have HW : Hid (Calls Tryz.prog 38 #[.pointer (some ⟨k.ps, 0, none⟩)] W fun e w' => ∃ a n cc, e = .returned (.slice a n cc) ∧ Below W.heap.size W w' ∧ Calls Tryz.prog 37 #[.slice a n cc] w' fun e w2 => e = .returned (.int .i64 (pickM st)) ∧ w2 = w') := by
  refine (worths_of h hi hc (by omega)).mono ?_
  rintro e w' ⟨a, n, cc, zs, rfl, hf, hw, hb⟩
  have hn : n = st.L.length := by rw [← hw.1, hf.1]
  refine ⟨a, n, cc, rfl, hb, (best_of a n cc zs w' hf (by omega)).mono ?_⟩
  rintro e w2 ⟨B, rfl, hB, rfl⟩
  rw [hn] at hB
  rw [pick_one hw hB]
  exact ⟨rfl, rfl⟩
 clear h hi hS hr hl hz
 go_enter Tryz.func12, Tryz.ntmps12
 go_wp2_with (first
  | (go_at_call 38; refine HW.out.mono ?_; rintro e w1 ⟨a, n, cc, rfl, hb, hB⟩)
  | (go_at_call 37; refine hB.mono ?_; rintro e w2 ⟨rfl, rfl⟩))
 go_ret
 exact ⟨rfl, hb⟩
end
end Go.Proofs.YtncnkpnfmbgifaaGreat

/- What one call of clean's carry does: a zone's blocks are appended anew. -/
namespace Go.Proofs.YtncnkpnfmbgifaaGreat
open Go.RowKit
set_option linter.unusedVariables false
set_option maxRecDepth 4000
theorem BkAt.lies {O : Nat → Prop} {W : World} {a : Option Addr} {n c : Nat} {D : List Int} (h : BkAt O W (.slice a n c) D) : ∀ y, a.map (·.block) = some y → O y ∧ y < W.heap.size := by
 intro y hy
 have hg : (Value.slice a n c).ownBlock = some y := by
  rcases h.1.2 with ⟨hv, h0⟩ | ⟨g', cap, cur, hv, r⟩
  ·simp only [Value.slice.injEq] at hv; rw [hv.1] at hy; cases hy
  ·simp only [Value.slice.injEq] at hv; rw [hv.1] at hy ⊢; simp only [Option.map_some, Option.some.injEq] at hy; subst hy; rfl
 exact ⟨h.2.1 y hg, (h.1.lt y hg).2⟩
theorem mem_size {st : St} (h : Inv st) (n : Pr) : ((memT st n).getD []).length ≤ 10000 := by
 unfold memT memS
 cases hg : getS st.S n with
 | none => simp
 | some a =>
  cases hb : blkZ st.zs a with
  | none => simp [hb]
  | some E =>
   obtain ⟨i, j, z, rfl, hz, hj⟩ := blkZ_some hb
   have := (h.wf.zone z (List.mem_of_getElem? hz)).2.2.2 E (List.mem_of_getElem? hj)
   have := (power_bounds h.wf.right.2.2.2.2.1).2
   simp [hb]
   omega
theorem RS.carry {q : Nat} {V wr X : World} {A : Option Addr} {j C : Nat} {l : List Pt} {a1 : Option Addr} {n1 c1 : Nat} {M : Pr → Option (List Int)} {x : Pl} (h : RS Non q V wr A j C l) (hq : q ≤ wr.heap.size) (hb : Below wr.heap.size wr X) (hk : BkAt (fun y => wr.heap.size ≤ y) X (.slice a1 n1 c1) ((M x.1).getD [])) (hd : ((M x.1).getD []).length ≤ 10000) (hf : FitsN x.1) (hj : j + 1 ≤ 100000) :
  ∃ a9 c9 w9, (Builtin.append_ #[72, 72] 72 #[.slice A j C, .slice (some ⟨X.heap.size, 0, none⟩) 1 1]).run Tryz.prog (X.alloc (.cells #[.int .u32 x.1.1, .int .u64 x.1.2, .bool false, .slice a1 n1 c1] 71)) = .ok (.slice a9 (j + 1) c9) w9 ∧ RS Non q V w9 a9 (j + 1) c9 (l ++ [carP M x]) := by
 have hw1 := h.below hq hb
 obtain ⟨⟨vs, ho, _⟩, _⟩ := hw1
 obtain ⟨a9, c9, w9, e9, o9, b9, g9⟩ := app_put ho (carP M x) a1 n1 c1 hj
 have e9' : (Builtin.append_ #[72, 72] 72 #[.slice A j C, .slice (some ⟨X.heap.size, 0, none⟩) 1 1]).run Tryz.prog (X.alloc (.cells #[.int .u32 x.1.1, .int .u64 x.1.2, .bool false, .slice a1 n1 c1] 71)) = .ok (.slice a9 (j + 1) c9) w9 := e9
 refine ⟨a9, c9, w9, e9', ?_⟩
 refine h.more (c1 := c1) hq (fun _ e => e.elim) hb ⟨hk.bin.1, hk.bin.2.1, by rw [hk.bin.2.2]; exact hd, hf.1, hf.2, hk.2.2.1⟩ (fun hn y hy => .inr (hk.lies y hy)) ⟨w9, rfl, fun vs' ho' => ?_⟩ b9 g9
 obtain ⟨a8, c8, w8, e8, o8, _⟩ := app_put ho' (carP M x) a1 n1 c1 hj
 rw [e9] at e8
 cases e8
 exact o8
section
variable {D : Nat → Prop} {W : World} {k : Bs} {st : St} {c : Nat}
set_option maxHeartbeats 2000000 in
theorem carry_of (h : StV D W k st c) (hi : Inv2 st) (z : Int) (hl : ∀ L, IsIn st.S z L → L.length ≤ 16) (hc : c + 16 < 10000) :
  Calls Tryz.prog 44 #[.pointer (some ⟨k.ps, 0, none⟩), .int .i64 z] W fun e w' => e = .returned (.bool (decide ((putM st (carL st z)).1 = 0))) ∧ Sv D W k (putM st (carL st z)).2 (c + 16) w' ∧ ∀ p ∈ carL st z, p.Fits := by
 have hM := smap_of h
 have HIn : Hid (Calls Tryz.prog 27 #[.pointer (some ⟨k.pm, 0, none⟩), .int .i64 z] W fun e X => ∃ L a cc, e = .returned (.slice a L.length cc) ∧ IsIn st.S z L ∧ PlIn X a L.length L ∧ Below W.heap.size W X) := by
  refine (mIn_of k.pm k.b1 k.b2 st.S c z W h.mp (by omega)).mono ?_
  rintro e X ⟨L, a, n, cc, rfl, hI, ow, hb⟩
  have hp := own_pl ow
  have hn := hp.1
  subst hn
  exact ⟨L, a, cc, rfl, hI, hp, hb⟩
 have H : Hid (StV D W k st c ∧ Inv2 st) := ⟨h, hi⟩
 clear h hi
 go_enter Tryz.func44, Tryz.ntmps44
 go_wp2_with (first
  | (go_at_call 19; refine hM.mono ?_; rintro e W ⟨rfl, rfl⟩)
  | (go_at_call 27; refine HIn.out.mono ?_; rintro e V ⟨L, a, cc, rfl, hI, hp, hb⟩))
 have HV : Hid (Below W.heap.size W V ∧ PlIn V a L.length L ∧ L = inM st.S z ∧ IsIn st.S z L ∧ L.length ≤ 16) := ⟨hb, hp, in_one hI, hI, hl L hI⟩
 clear hb hp hI hl
 go_loopw [15, 5] (fun x v wr => ∃ (i C : Nat) (A : Option Addr), x = .int .i64 i ∧ v = .slice A i C ∧ i ≤ L.length ∧ RS Non V.heap.size V wr A i C ((L.take i).map (carP (memT st)))) (fun x _ _ => L.length - (intOf x).toNat)
 case atStart => exact ⟨0, 0, none, rfl, rfl, Nat.zero_le _, by simpa using RS.start Non V⟩
 case round =>
  obtain ⟨i, C, A, rfl, rfl, hi, rs⟩ := hrel
  have hl16 := HV.out.2.2.2.2
  rcases Nat.lt_or_ge i L.length with hlt | hge
  ·have hi' : (i : Int) < L.length := by omega
   have hwi : IntKind.i64.wrap ((i : Int) + 1) = (i : Int) + 1 := by rw [IntKind.wrap_i64]; omega
   obtain ⟨x, g, hx, rfl, y0, y1, y2, y3⟩ := (HV.out.2.1.below rs.bel).at hlt
   have hxm : x ∈ st.S := ((HV.out.2.2.2.1.2 x).1 (List.mem_of_getElem? hx)).1
   have hfx : FitsN x.1 := (H.out.1.mp.good.fits x hxm).1
   have ba : Below wr.heap.size wr (wr.alloc (.cells #[.int .u32 x.1.1, .int .u64 x.1.2, .int .i64 x.2.1, .int .i64 x.2.2] 51)) := (Below.refl _ _).alloc (Nat.le_refl _) _
   have hsz := rs.bel.size
   have HY : Hid (RS Non V.heap.size V (wr.alloc (.cells #[.int .u32 x.1.1, .int .u64 x.1.2, .int .i64 x.2.1, .int .i64 x.2.2] 51)) A i C ((L.take i).map (carP (memT st))) ∧ Blk (wr.alloc (.cells #[.int .u32 x.1.1, .int .u64 x.1.2, .int .i64 x.2.1, .int .i64 x.2.2] 51)) wr.heap.size [.int .u32 x.1.1, .int .u64 x.1.2, .int .i64 x.2.1, .int .i64 x.2.2] 51 ∧ V.heap.size ≤ (wr.alloc (.cells #[.int .u32 x.1.1, .int .u64 x.1.2, .int .i64 x.2.1, .int .i64 x.2.2] 51)).heap.size) := ⟨rs.below hsz ba, Blk.new' rfl rfl, by simp; omega⟩
   have HN : Hid ((L.take (i + 1)).map (carP (memT st)) = (L.take i).map (carP (memT st)) ++ [carP (memT st) x]) := by show _ = _; rw [take_snoc hx]; simp
   have HGet : Hid (∀ Y, RS Non V.heap.size V Y A i C ((L.take i).map (carP (memT st))) → V.heap.size ≤ Y.heap.size → ∀ ga, Blk Y ga [.int .u32 x.1.1, .int .u64 x.1.2, .int .i64 x.2.1, .int .i64 x.2.2] 51 → Calls Tryz.prog 21 #[.pointer (some ⟨k.ps, 0, none⟩), .int .u32 x.1.1, .int .u64 x.1.2] Y fun e X => ∃ a1 n1 c1, e = .returned (.tuple #[.slice a1 n1 c1, .bool (memT st x.1).isSome]) ∧ X.cell? ⟨ga, 0, none⟩ = some (.int .u32 x.1.1) ∧ X.cell? ⟨ga, 1, none⟩ = some (.int .u64 x.1.2) ∧ (∀ o, (X.alloc o).cell? ⟨ga, 0, none⟩ = some (.int .u32 x.1.1)) ∧ (∀ o, (X.alloc o).cell? ⟨ga, 1, none⟩ = some (.int .u64 x.1.2)) ∧ ∃ a9 c9 w9, (Builtin.append_ #[72, 72] 72 #[.slice A i C, .slice (some ⟨X.heap.size, 0, none⟩) 1 1]).run Tryz.prog (X.alloc (.cells #[.int .u32 x.1.1, .int .u64 x.1.2, .bool false, .slice a1 n1 c1] 71)) = .ok (.slice a9 (i + 1) c9) w9 ∧ RS Non V.heap.size V w9 a9 (i + 1) c9 ((L.take (i + 1)).map (carP (memT st)))) := fun Y hY hq ga hg => by
    have hbV : Below W.heap.size W Y := HV.out.1.trans (hY.bel.mono HV.out.1.size)
    refine (sget_of (H.out.1.under hbV) x.1 hfx H.out.2.inv.plc).mono ?_
    rintro e X ⟨v, rfl, hk, hb⟩
    obtain ⟨a1, c1, rfl⟩ := own_slice hk.1
    obtain ⟨a9, c9, w9, e9, r9⟩ := RS.carry hY hq hb hk (mem_size H.out.2.inv x.1) hfx (by omega)
    have hg2 := hg.below hb hg.lt
    exact ⟨a1, _, c1, rfl, hg2.cell 0, hg2.cell 1, fun o => (hg2.alloc o).cell 0, fun o => (hg2.alloc o).cell 1, a9, c9, w9, e9, by rw [HN.out]; exact r9⟩
   generalize (memT st x.1).isSome = is at HGet
   clear rs hx hxm hfx ba hsz
   go_wp2_with fail
   have hga : Blk (wr.alloc (.cells #[.int .u32 x.1.1, .int .u64 x.1.2, .int .i64 x.2.1, .int .i64 x.2.2] 51)) wr.heap.size [.int .u32 x.1.1, .int .u64 x.1.2, .int .i64 x.2.1, .int .i64 x.2.2] 51 := HY.out.2.1
   generalize World.alloc wr _ = Y at HY hga ⊢
   generalize wr.heap.size = ga at HY hga ⊢
   go_wp2_with (first
    | (go_at_call 21; refine (HGet.out _ HY.out.1 HY.out.2.2 ga HY.out.2.1).mono ?_; rintro e X ⟨a1, n1, c1, rfl, z0, z1, z0a, z1a, a9, c9, w9, e9, r9⟩)
    | (at_builtin; refine wpList_append_run rfl _ _ 72 72 rfl _ _ rfl rfl _ _ e9 ?_))
   exact ⟨⟨i + 1, c9, a9, by simp, rfl, by omega, r9⟩, by simp [intOf]; omega⟩
  ·obtain rfl : i = L.length := by omega
   rw [List.take_of_length_le (Nat.le_refl _)] at rs
   have hL : L.map (carP (memT st)) = carL st z := by rw [HV.out.2.2.1]; rfl
   rw [hL] at rs
   have hlen : (carL st z).length = L.length := by rw [← hL]; simp
   have hbV : Below W.heap.size W wr := HV.out.1.trans (rs.bel.mono HV.out.1.size)
   have hpts := rs.pts hlen (by omega)
   have HPu : Hid (Calls Tryz.prog 34 #[.pointer (some ⟨k.ps, 0, none⟩), .slice A L.length C] wr fun e w' => e = .returned (.int .u16 (putM st (carL st z)).1) ∧ Sv D W k (putM st (carL st z)).2 (c + 16) w' ∧ ∀ p ∈ carL st z, p.Fits) := by
    refine (sput_of (H.out.1.under hbV) A L.length C (carL st z) _ hpts rs.cap (fun x hx => ⟨fun hs => ?_, hx.2⟩) (by omega)).mono ?_
    ·rcases hx.1 with h | h
     ·exact h.elim
     ·have := H.out.1.all x hs
      have := HV.out.1.size
      omega
    ·rintro e w' ⟨rfl, sv⟩
     exact ⟨rfl, (sv.from hbV).mono (by omega), hpts.fits⟩
   clear rs hL hlen hbV hpts
   obtain ⟨E, hE⟩ : ∃ E, E = (putM st (carL st z)).1 := ⟨_, rfl⟩
   rw [← hE] at HPu
   have HE : Hid (E = (putM st (carL st z)).1) := hE
   clear hE
   go_wp2_with (go_at_call 34; refine HPu.out.mono ?_; rintro e w9 ⟨rfl, h9⟩)
   go_ret
   exact ⟨by rw [← HE.out]; rfl, h9⟩
end
end Go.Proofs.YtncnkpnfmbgifaaGreat
