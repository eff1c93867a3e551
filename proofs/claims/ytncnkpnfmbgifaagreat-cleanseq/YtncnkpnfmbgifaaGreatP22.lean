/- Texts of this seat, one behind the other: StB. -/
import Derived.Test.YtncnkpnfmbgifaaGreatP21
/- What one call of open, front and item of the store does. -/
namespace Go.Proofs.YtncnkpnfmbgifaaGreat
open Go.RowKit
set_option linter.unusedVariables false
set_option maxRecDepth 4000
section
variable {D : Nat → Prop} {W : World} {k : Bs} {st : St} {c : Nat}
def segOf (w : World) (g : Nat) : List Int := match w.heap[g]? with | some (.cells cs _ _) => cs.toList.map intOf | _ => []
theorem seg_of {w : World} {p g : Nat} {r : Int} {L : List Int} (h : SegP w p g r L) : segOf w g = L := by
 have e : w.heap[g]? = some (.cells (u8s L).toArray 5 (0, 0)) := h.hg
 unfold segOf
 rw [e]
 simp [u8s, List.map_map, Function.comp_def, intOf]
set_option maxHeartbeats 2000000 in
theorem open_of (n : Int) (h : StV D W k st c) : Calls Tryz.prog 71 #[.pointer (some ⟨k.ps, 0, none⟩), .int .i64 n] W fun e w' => e = .returned (.tuple #[.int .i64 (openZ st.s st.zs n st.L).1, .bool (openZ st.s st.zs n st.L).2.1]) ∧ Sv D W k { st with L := (openZ st.s st.zs n st.L).2.2 } c w' := by
 have H : Hid (StV D W k st c) := h
 clear h
 go_enter Tryz.func71, Tryz.ntmps71
 go_wp2
 go_loopw [6] (fun _ wr => ∃ L', Sv D W k { st with L := L' } c wr ∧ openZ st.s st.zs n L' = openZ st.s st.zs n st.L) (fun _ wr => muZ (segOf wr k.gg))
 case atStart => exact ⟨st.L, Sv.start H.out, rfl⟩
 case round =>
  obtain ⟨L', ⟨D', hv, hD, ho⟩, he⟩ := hrel
  have hm : muZ (segOf wr k.gg) = muZ L' := by rw [seg_of hv.sg]
  rw [hm]
  clear hm
  have hcur := current_of hv
  have HS : Hid ((∀ x, D' x → D x ∨ W.heap.size ≤ x) ∧ Out (StO D k) W wr ∧ openZ st.s st.zs n L' = openZ st.s st.zs n st.L) := ⟨hD, ho, he⟩
  have HC : Hid (Calls Tryz.prog 122 #[.pointer (some ⟨k.ps, 0, none⟩)] wr fun e w' => e = .returned (.tuple #[.int .i64 (curA L'), .bool (curB L')]) ∧ Sv D W k { st with L := curL L' } c w') := by
   refine hcur.mono ?_
   rintro e w' ⟨rfl, sv⟩
   exact ⟨rfl, Sv.next hD ho sv⟩
  clear hcur hD ho he hv
  cases hb : curB L' with
  | false =>
   have hd := openZ_done (s := st.s) (zs := st.zs) (k := n) (L := L') (by rw [hb]; simp)
   have HO : Hid (openZ st.s st.zs n st.L = (curA L', false, curL L')) := by rw [← HS.out.2.2]; exact hd.trans (by rw [hb])
   rw [hb] at HC
   clear hb hd
   go_wp2_with (go_at_call 122; refine HC.out.mono ?_; rintro e w2 ⟨rfl, sv⟩)
   go_ret2
   rw [HO.out]
   exact ⟨rfl, sv⟩
  | true =>
   rcases Int.lt_or_le (roomZ st.s st.zs (curA L')) n with hr | hr
   ·have HM : Hid (muZ (turnZ (curL L') (curA L') 2 3) + 1 = muZ L' ∧ openZ st.s st.zs n (turnZ (curL L') (curA L') 2 3) = openZ st.s st.zs n st.L) := ⟨cur_mu hb, by rw [openZ_more hb hr]; exact HS.out.2.2⟩
    have hr' : ¬ n ≤ roomZ st.s st.zs (curA L') := by omega
    obtain ⟨R, hR⟩ : ∃ R, R = roomZ st.s st.zs (curA L') := ⟨_, rfl⟩
    rw [← hR] at hr'
    rw [hb] at HC
    have HC2 : Hid (Calls Tryz.prog 122 #[.pointer (some ⟨k.ps, 0, none⟩)] wr fun e w' => e = .returned (.tuple #[.int .i64 (curA L'), .bool true]) ∧ Calls Tryz.prog 75 #[.pointer (some ⟨k.ps, 0, none⟩), .int .i64 (curA L')] w' fun e w'' => e = .returned (.int .i64 R) ∧ w''.cell? ⟨k.ps, 1, none⟩ = some (.pointer (some ⟨k.pg, 0, none⟩)) ∧ Calls Tryz.prog 123 #[.pointer (some ⟨k.pg, 0, none⟩), .int .i64 (curA L')] w'' fun e w3 => (∃ v, e = .returned v) ∧ Sv D W k { st with L := turnZ (curL L') (curA L') 2 3 } c w3) := by
     refine HC.out.mono ?_
     rintro e w' ⟨rfl, D2, hv2, hD2, ho2⟩
     refine ⟨rfl, (sroom_of (curA L') hv2).mono ?_⟩
     rintro e w'' ⟨rfl, hb2⟩
     have hv3 := hv2.under hb2
     refine ⟨by rw [hR], hv3.cells.2.1, (gFill_of k.pg k.gg st.s.r (curL L') (curA L') w'' hv3.sg).mono ?_⟩
     rintro e w3 ⟨rfl, h1, h2⟩
     exact ⟨⟨_, rfl⟩, Sv.next hD2 (ho2.under hb2) (hv3.sgstep h1 h2 (turnZ_length _ _ _ _))⟩
    clear HC hb hr hR
    go_wp2_with (first
     | (go_at_call 122; refine HC2.out.mono ?_; rintro e w2 ⟨rfl, hro⟩)
     | (go_at_call 75; refine hro.mono ?_; rintro e w3 ⟨rfl, x1, hfi⟩)
     | (go_at_call 123; refine hfi.mono ?_; rintro e w4 ⟨⟨v4, rfl⟩, sv⟩))
    go_roundw
    case rel => exact ⟨_, sv, HM.out.2⟩
    case measure =>
     obtain ⟨D4, hv4, _⟩ := sv
     rw [seg_of hv4.sg]
     have := HM.out.1
     simp only
     omega
   ·have hd := openZ_done (s := st.s) (zs := st.zs) (k := n) (L := L') (by omega)
    have HO : Hid (openZ st.s st.zs n st.L = (curA L', true, curL L')) := by rw [← HS.out.2.2]; exact hd.trans (by rw [hb])
    obtain ⟨R, hR⟩ : ∃ R, R = roomZ st.s st.zs (curA L') := ⟨_, rfl⟩
    rw [← hR] at hr
    rw [hb] at HC
    have HC2 : Hid (Calls Tryz.prog 122 #[.pointer (some ⟨k.ps, 0, none⟩)] wr fun e w' => e = .returned (.tuple #[.int .i64 (curA L'), .bool true]) ∧ Calls Tryz.prog 75 #[.pointer (some ⟨k.ps, 0, none⟩), .int .i64 (curA L')] w' fun e w'' => e = .returned (.int .i64 R) ∧ Sv D W k { st with L := curL L' } c w'') := by
     refine HC.out.mono ?_
     rintro e w' ⟨rfl, D2, hv2, hD2, ho2⟩
     refine ⟨rfl, (sroom_of (curA L') hv2).mono ?_⟩
     rintro e w'' ⟨rfl, hb2⟩
     exact ⟨by rw [hR], D2, hv2.under hb2, hD2, ho2.under hb2⟩
    clear HC hb hd hR
    go_wp2_with (first
     | (go_at_call 122; refine HC2.out.mono ?_; rintro e w2 ⟨rfl, hro⟩)
     | (go_at_call 75; refine hro.mono ?_; rintro e w3 ⟨rfl, sv⟩))
    go_ret2
    rw [HO.out]
    exact ⟨rfl, sv⟩
theorem PtsIn.at (X : Nat → Prop) {w : World} {a : Option Addr} {n : Nat} {l : List Pt} (h : PtsIn X w a n l) {i : Nat} (hi : i < n) : ∃ (p : Pt) (b off : Nat), l[i]? = some p ∧ a = some ⟨b, off, none⟩ ∧ X b ∧ PtAt X w b (off + i * 4) p := by
 obtain ⟨b, off, rfl, hb, hc⟩ := h.2.2.resolve_left (by omega)
 have : i < l.length := by rw [h.1]; exact hi
 exact ⟨l[i], b, off, by simp [this], rfl, hb, hc i _ (by simp [this])⟩
theorem pdrop_at {α : Type} {l : List α} {j : Nat} {p : α} (h : l[j]? = some p) : l.drop j = p :: l.drop (j + 1) := by
 have hj := (List.getElem?_eq_some_iff.1 h).1
 have e := (List.getElem?_eq_some_iff.1 h).2
 rw [List.drop_eq_getElem_cons hj, e]
theorem frN_end {l : List Pt} {i j n : Nat} {d : Int} (hl : l.length = n) (h : j = n ∨ j = i) : frN (l.drop j) (i - j) d = 0 := by
 rcases h with h | h
 ·rw [List.drop_of_length_le (by omega)]
  rfl
 ·subst h
  rw [Nat.sub_self]
  cases l.drop j <;> rfl
theorem frN_step {l : List Pt} {i j : Nat} {d : Int} {p : Pt} (hp : l[j]? = some p) (hi : j < i) : frN (l.drop j) (i - j) d = if p.x = true then frN (l.drop (j + 1)) (i - (j + 1)) d + 1 else if 0 < d then frN (l.drop (j + 1)) (i - (j + 1)) (d - 1) + 1 else 0 := by
 rw [pdrop_at hp, show i - j = (i - (j + 1)) + 1 by omega]
 rfl
set_option maxHeartbeats 2000000 in
theorem front_of (a : Option Addr) (n cc : Nat) (l : List Pt) (X : Nat → Prop) (i : Nat) (d : Int) (h : PtsIn X W a n l) (hcc : n ≤ cc) (hi : i ≤ 1000) (hd : -1 ≤ d ∧ d ≤ 10000) : Calls Tryz.prog 73 #[.slice a n cc, .int .i64 (i : Nat), .int .i64 d] W fun e w' => e = .returned (.slice a (frN l i d) cc) ∧ Below W.heap.size W w' := by
 have hn : n ≤ 1000 := h.2.1
 have H : Hid (PtsIn X W a n l) := h
 clear h
 go_enter Tryz.func73, Tryz.ntmps73
 go_wp2
 go_step3
 go_wp2
 go_step3
 go_wp2
 go_loopw [2, 7] (fun dv nv wr => ∃ (j : Nat) (d' : Int), nv = .int .i64 j ∧ dv = .int .i64 d' ∧ -1 ≤ d' ∧ d' ≤ 10000 ∧ j ≤ n ∧ j ≤ i ∧ frN l i d = j + frN (l.drop j) (i - j) d' ∧ wr = W) (fun _ nv _ => n - (intOf nv).toNat)
 case atStart => exact ⟨0, d, rfl, rfl, hd.1, hd.2, Nat.zero_le _, Nat.zero_le _, by simp, rfl⟩
 case round =>
  obtain ⟨j, d', rfl, rfl, hd1, hd2, hjn, hji, hf, rfl⟩ := hrel
  have HF : Hid (frN l i d = j + frN (l.drop j) (i - j) d') := hf
  clear hf
  by_cases hlt : j < n ∧ j < i
  ·obtain ⟨hjn', hji'⟩ := hlt
   obtain ⟨p, b, off, hp, rfl, hb, A, L, C, hc, _⟩ := H.out.at X hjn'
   have x2 : wr.cell? ⟨b, off + j * 4 + 2, none⟩ = some (.bool p.x) := hc 2 _ rfl
   have hstep := frN_step (d := d') hp hji'
   have hwk : IntKind.i64.wrap ((j : Int) + 1) = (j : Int) + 1 := by rw [IntKind.wrap_i64]; omega
   have hwd : IntKind.i64.wrap (d' - 1) = d' - 1 := by rw [IntKind.wrap_i64]; omega
   clear hc
   cases hx : p.x with
   | true =>
    rw [hx, if_pos rfl] at hstep
    have HF2 : Hid (frN l i d = (j + 1) + frN (l.drop (j + 1)) (i - (j + 1)) d') := by have := HF.out; rw [hstep] at this; exact (by omega : frN l i d = (j + 1) + frN (l.drop (j + 1)) (i - (j + 1)) d')
    rw [hx] at x2
    clear hx hstep hp
    rcases Nat.lt_or_ge i n with hin | hin
    all_goals (
     go_wp2
     go_roundw
     case rel => exact ⟨j + 1, d', by simp, rfl, hd1, hd2, by omega, by omega, HF2.out, trivial⟩
     case measure => simp [intOf]; omega)
   | false =>
    rw [hx, if_neg (by decide)] at hstep
    rw [hx] at x2
    clear hx hp
    rcases Int.lt_or_le 0 d' with hd0 | hd0
    ·rw [if_pos hd0] at hstep
     have HF2 : Hid (frN l i d = (j + 1) + frN (l.drop (j + 1)) (i - (j + 1)) (d' - 1)) := by have := HF.out; rw [hstep] at this; exact (by omega : frN l i d = (j + 1) + frN (l.drop (j + 1)) (i - (j + 1)) (d' - 1))
     clear hstep
     rcases Nat.lt_or_ge i n with hin | hin
     all_goals (
      go_wp2
      go_roundw
      case rel => exact ⟨j + 1, d' - 1, by simp, rfl, by omega, by omega, by omega, by omega, HF2.out, trivial⟩
      case measure => simp [intOf]; omega)
    ·rw [if_neg (by omega)] at hstep
     have HF2 : Hid (frN l i d = j) := by have := HF.out; rw [hstep] at this; exact this
     clear hstep
     have hd0' : ¬ 0 < d' := by omega
     rcases Nat.lt_or_ge i n with hin | hin
     all_goals (
      go_wp2
      all_goals (
       go_ret
       exact ⟨by rw [HF2.out]; rfl, Below.refl _ _⟩))
  ·have HF2 : Hid (frN l i d = j) := by have := HF.out; rw [frN_end H.out.1 (by omega)] at this; exact this
   rcases Nat.lt_or_ge i n with hin | hin
   ·obtain rfl : j = i := by omega
    go_wp2
    all_goals (
     first | go_ret | (rw [Exit.noGoto_ret]; go_ret)
     exact ⟨by rw [HF2.out]; rfl, Below.refl _ _⟩)
   ·obtain rfl : j = n := by omega
    go_wp2
    all_goals (
     first | go_ret | (rw [Exit.noGoto_ret]; go_ret)
     exact ⟨by rw [HF2.out]; rfl, Below.refl _ _⟩)
set_option maxHeartbeats 2000000 in
theorem item_of (p : Pt) (A : Option Addr) (L C : Nat) (h : BIn W A L p.d) (hL : L ≤ 10000) : Calls Tryz.prog 124 #[ptV p (.slice A L C)] W fun e w' => e = .returned (.agg #[.int .u32 (itP p).t, .int .u64 (itP p).b, .int .u8 (itP p).k, .int .u32 (itP p).s, .int .u16 (itP p).e]) ∧ Below W.heap.size W w' := by
 obtain ⟨t, b, x, d⟩ := p
 unfold ptV
 cases x
 ·obtain ⟨E, hE⟩ : ∃ E, E = endsN d := ⟨_, rfl⟩
  obtain ⟨Z, hZ⟩ : ∃ Z, Z = crI 0 d := ⟨_, rfl⟩
  have hE1 : E ≤ L := by have := (ends_at d).1; rw [hE, ← h.1]; exact this
  have hwE : IntKind.u16.wrap (E : Int) = (E : Int) := by rw [IntKind.wrap_u16]; omega
  have HI : Hid (itP ⟨t, b, false, d⟩ = ⟨t, b, 1, Z, (E : Nat)⟩) := by rw [hE, hZ]; exact rfl
  have HB : Hid (∀ X, Below W.heap.size W X → BIn X A L d) := fun X hX => h.below hX
  have HS : Hid (∀ (X : World) (g : Nat), X.cell? ⟨g, 0, none⟩ = some (.slice A L C) → Below W.heap.size W X → Calls Tryz.prog 180 #[.slice (some ⟨g, 0, none⟩) 1 1] X fun e w' => e = .returned (.int .u32 Z) ∧ w' = X) := fun X g hc hX => by rw [hZ]; exact crcSum_of g A L C 1 d X hc (h.below hX)
  have HN : Hid (∀ X, Below W.heap.size W X → Calls Tryz.prog 181 #[.slice A L C] X fun e w' => e = .returned (.int .i64 (E : Nat)) ∧ w' = X) := fun X hX => by rw [hE]; exact ends_of A L C d X (h.below hX)
  clear h hE hZ
  obtain ⟨q, hq⟩ : ∃ q, q = W.heap.size := ⟨_, rfl⟩
  have HW : Hid (∀ X, X = (((W.alloc (.cells #[.int .u32 t, .int .u64 b, .bool false, .slice A L C] 71)).alloc (.cells #[.int .u32 0, .int .u64 0, .int .u8 0, .int .u32 0, .int .u16 0] 183)).alloc (.cells #[.int .u32 t, .int .u64 b, .int .u8 2, .int .u32 0, .int .u16 0] 183)) → Blk X q [.int .u32 t, .int .u64 b, .bool false, .slice A L C] 71 ∧ Blk X (q + 1) [.int .u32 0, .int .u64 0, .int .u8 0, .int .u32 0, .int .u16 0] 183 ∧ Blk X (q + 1 + 1) [.int .u32 t, .int .u64 b, .int .u8 2, .int .u32 0, .int .u16 0] 183 ∧ Below W.heap.size W X ∧ X.heap.size = q + 1 + 1 + 1) := by
   rintro X rfl
   exact ⟨((Blk.new' hq.symm rfl).alloc _).alloc _, (Blk.new' (by simp [hq]) rfl).alloc _, Blk.new' (by simp [hq]) rfl, (((Below.refl _ _).alloc (Nat.le_refl _) _).alloc (by simp) _).alloc (by simp; omega) _, by simp [hq]⟩
  go_enter Tryz.func124, Tryz.ntmps124
  go_wp2_with fail
  rw [← hq]
  generalize hX : World.alloc (World.alloc (World.alloc W _) _) _ = X
  obtain ⟨hb1, hb0, hb2, hbl, hsz⟩ := HW.out X hX.symm
  have z0 := hb0.cell 0
  have z1 := hb0.cell 1
  have z2 := hb0.cell 2
  have z3 := hb0.cell 3
  have z4 := hb0.cell 4
  have g0 := hb0.frozen 0
  have g1 := hb0.frozen 1
  have g2 := hb0.frozen 2
  have g3 := hb0.frozen 3
  have g4 := hb0.frozen 4
  have x3 := hb1.cell 3
  have y0 := hb2.cell 0
  have y1 := hb2.cell 1
  have y2 := hb2.cell 2
  have y3 := hb2.cell 3
  have y4 := hb2.cell 4
  have f2 := hb2.frozen 2
  have f3 := hb2.frozen 3
  have f4 := hb2.frozen 4
  simp only [List.getElem?_cons_zero, List.getElem?_cons_succ] at x3 y0 y1 y2 y3 y4 z0 z1 z2 z3 z4
  have n1 : q ≠ q + 1 + 1 := by omega
  have n2 : q + 1 + 1 ≠ q := by omega
  have n3 : q + 1 + 1 + 1 ≠ q + 1 + 1 := by omega
  have n4 : q + 1 + 1 ≠ q + 1 + 1 + 1 := by omega
  have n5 : q + 1 ≠ q + 1 + 1 := by omega
  have n6 : q + 1 + 1 ≠ q + 1 := by omega
  have n7 : q + 1 ≠ q + 1 + 1 + 1 := by omega
  have n8 : q + 1 + 1 + 1 ≠ q + 1 := by omega
  have HX : Hid (Blk X (q + 1) [.int .u32 0, .int .u64 0, .int .u8 0, .int .u32 0, .int .u16 0] 183 ∧ Below W.heap.size W X ∧ q = W.heap.size) := ⟨hb0, hbl, hq⟩
  clear hb0 hb1 hb2 hbl hq hX HW
  go_region_with (first
   | (go_at_call 180; refine (HS.out _ _ (by first | exact (Blk.new' hsz rfl).drew.cell 0 | exact (Blk.new' hsz rfl).cell 0) (by first | exact below_drew (HX.out.2.1.alloc HX.out.2.1.size _) | exact HX.out.2.1.alloc HX.out.2.1.size _)).mono ?_; rintro e w' ⟨rfl, rfl⟩)
   | (go_at_call 181; refine (HN.out _ (by first | exact below_drew (HX.out.2.1.alloc HX.out.2.1.size _) | exact HX.out.2.1.alloc HX.out.2.1.size _)).mono ?_; rintro e w' ⟨rfl, rfl⟩))
  all_goals go_wp2
  all_goals (
   have hfin := (((((((((HX.out.1.set_other (a := ⟨q + 1 + 1, 2, none⟩) n5 (.int .u8 1)).set_other (a := ⟨q + 1 + 1, 3, none⟩) n5 (.int .u32 Z)).set_other (a := ⟨q + 1 + 1, 4, none⟩) n5 (.int .u16 (E : Nat))).set 0 (.int .u32 t)).set 1 (.int .u64 b)).set 2 (.int .u8 1)).set 3 (.int .u32 Z)).set 4 (.int .u16 (E : Nat))).alloc (.cells #[.slice A L C] 43)).drew
   refine bodyPost_ret (results_cell_one (p := 2) (ty := 183) rfl _ _ _ _ _ _ rfl hfin Tryz.underlying183 rfl Tryz.info_item) rfl ⟨by rw [HI.out]; rfl, ?_⟩
   have hq := HX.out.2.2
   refine below_drew (Below.alloc ?_ (by simp; omega) _)
   repeat refine Below.setCell ?_ (by simp; omega) _
   exact HX.out.2.1)
 ·obtain ⟨q, hq⟩ : ∃ q, q = W.heap.size := ⟨_, rfl⟩
  have HW : Hid (∀ X, X = (((W.alloc (.cells #[.int .u32 t, .int .u64 b, .bool true, .slice A L C] 71)).alloc (.cells #[.int .u32 t, .int .u64 b, .int .u8 2, .int .u32 0, .int .u16 0] 183)).alloc (.cells #[.int .u32 t, .int .u64 b, .int .u8 2, .int .u32 0, .int .u16 0] 183)) → Blk X (W.heap.size + 1) [.int .u32 t, .int .u64 b, .int .u8 2, .int .u32 0, .int .u16 0] 183 ∧ Below W.heap.size W X) := by
   rintro X rfl
   exact ⟨(Blk.new' (by simp) rfl).alloc _, (((Below.refl _ _).alloc (Nat.le_refl _) _).alloc (by simp) _).alloc (by simp; omega) _⟩
  go_enter Tryz.func124, Tryz.ntmps124
  go_wp2_with fail
  exact bodyPost_ret (results_cell_one (p := 2) (ty := 183) rfl _ _ _ _ _ _ rfl (HW.out _ rfl).1 Tryz.underlying183 rfl Tryz.info_item) rfl ⟨rfl, (HW.out _ rfl).2⟩
end
end Go.Proofs.YtncnkpnfmbgifaaGreat
