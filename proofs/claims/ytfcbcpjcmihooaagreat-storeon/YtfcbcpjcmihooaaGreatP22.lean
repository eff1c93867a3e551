/- Texts of this seat, one behind the other: StB, StW, StN, StO. -/
import Derived.Test.YtfcbcpjcmihooaaGreatP21
import Derived.Test.YtfcbcpjcmihooaaGreatP17
/- What one call of open, front and item of the store does. -/
namespace Go.Proofs.YtfcbcpjcmihooaaGreat
open Go.RowKit
set_option linter.unusedVariables false
set_option maxRecDepth 4000
section
variable {D : Nat → Prop} {W : World} {k : Bs} {st : St} {c : Nat}
def segOf (w : World) (g : Nat) : List Int := match w.heap[g]? with | some (.cells cs _ _) => cs.toList.map intOf | _ => []
theorem seg_of {w : World} {p g : Nat} {r : Int} {L : List Int} (h : SegP w p g r L) : segOf w g = L := by
  have e : w.heap[g]? = some (.cells (u8s L).toArray 5 (0, 0)) := h.hg
  unfold segOf
  rw [e]
  simp [u8s, List.map_map, Function.comp_def, intOf]
set_option maxHeartbeats 2000000 in
theorem open_of (n : Int) (h : StV D W k st c) : Calls Tryz.prog 57 #[.pointer (some ⟨k.ps, 0, none⟩), .int .i64 n] W fun e w' => e = .returned (.tuple #[.int .i64 (openZ st.s st.zs n st.L).1, .bool (openZ st.s st.zs n st.L).2.1]) ∧ Sv D W k { st with L := (openZ st.s st.zs n st.L).2.2 } c w' := by
  have H : Hid (StV D W k st c) := h
  clear h
  go_enter Tryz.func57, Tryz.ntmps57
  go_wp2
  go_loopw [6] (fun _ wr => ∃ L', Sv D W k { st with L := L' } c wr ∧ openZ st.s st.zs n L' = openZ st.s st.zs n st.L) (fun _ wr => muZ (segOf wr k.gg))
  case atStart => exact ⟨st.L, Sv.start H.out, rfl⟩
  case round =>
    obtain ⟨L', ⟨D', hv, hD, ho⟩, he⟩ := hrel
    have hm : muZ (segOf wr k.gg) = muZ L' := by rw [seg_of hv.sg]
    rw [hm]
    clear hm
    have hcur := current_of hv
    have HS : Hid ((∀ x, D' x → D x ∨ W.heap.size ≤ x) ∧ Out (StO D k) W wr ∧ openZ st.s st.zs n L' = openZ st.s st.zs n st.L) := ⟨hD, ho, he⟩
    have HC : Hid (Calls Tryz.prog 117 #[.pointer (some ⟨k.ps, 0, none⟩)] wr fun e w' => e = .returned (.tuple #[.int .i64 (curA L'), .bool (curB L')]) ∧ Sv D W k { st with L := curL L' } c w') := by
      refine hcur.mono ?_
      rintro e w' ⟨rfl, sv⟩
      exact ⟨rfl, Sv.next hD ho sv⟩
    clear hcur hD ho he hv
    cases hb : curB L' with
    | false =>
      have hd := openZ_done (s := st.s) (zs := st.zs) (k := n) (L := L') (by rw [hb]; simp)
      have HO : Hid (openZ st.s st.zs n st.L = (curA L', false, curL L')) := by rw [← HS.out.2.2]; exact hd.trans (by rw [hb])
      rw [hb] at HC
      clear hb hd
      go_wp2_with (go_at_call 117; refine HC.out.mono ?_; rintro e w2 ⟨rfl, sv⟩)
      go_ret2
      rw [HO.out]
      exact ⟨rfl, sv⟩
    | true =>
      rcases Int.lt_or_le (roomZ st.s st.zs (curA L')) n with hr | hr
      · have HM : Hid (muZ (turnZ (curL L') (curA L') 2 3) + 1 = muZ L' ∧ openZ st.s st.zs n (turnZ (curL L') (curA L') 2 3) = openZ st.s st.zs n st.L) := ⟨cur_mu hb, by rw [openZ_more hb hr]; exact HS.out.2.2⟩
        have hr' : ¬ n ≤ roomZ st.s st.zs (curA L') := by omega
        obtain ⟨R, hR⟩ : ∃ R, R = roomZ st.s st.zs (curA L') := ⟨_, rfl⟩
        rw [← hR] at hr'
        rw [hb] at HC
        have HC2 : Hid (Calls Tryz.prog 117 #[.pointer (some ⟨k.ps, 0, none⟩)] wr fun e w' => e = .returned (.tuple #[.int .i64 (curA L'), .bool true]) ∧ Calls Tryz.prog 61 #[.pointer (some ⟨k.ps, 0, none⟩), .int .i64 (curA L')] w' fun e w'' => e = .returned (.int .i64 R) ∧ w''.cell? ⟨k.ps, 1, none⟩ = some (.pointer (some ⟨k.pg, 0, none⟩)) ∧ Calls Tryz.prog 118 #[.pointer (some ⟨k.pg, 0, none⟩), .int .i64 (curA L')] w'' fun e w3 => (∃ v, e = .returned v) ∧ Sv D W k { st with L := turnZ (curL L') (curA L') 2 3 } c w3) := by
          refine HC.out.mono ?_
          rintro e w' ⟨rfl, D2, hv2, hD2, ho2⟩
          refine ⟨rfl, (sroom_of (curA L') hv2).mono ?_⟩
          rintro e w'' ⟨rfl, hb2⟩
          have hv3 := hv2.under hb2
          refine ⟨by rw [hR], hv3.cells.2.1, (gFill_of k.pg k.gg st.s.r (curL L') (curA L') w'' hv3.sg).mono ?_⟩
          rintro e w3 ⟨rfl, h1, h2⟩
          exact ⟨⟨_, rfl⟩, Sv.next hD2 (ho2.under hb2) (hv3.sgstep h1 h2 (turnZ_length _ _ _ _))⟩
        clear HC hb hr hR
        go_wp2_with (first
          | (go_at_call 117; refine HC2.out.mono ?_; rintro e w2 ⟨rfl, hro⟩)
          | (go_at_call 61; refine hro.mono ?_; rintro e w3 ⟨rfl, x1, hfi⟩)
          | (go_at_call 118; refine hfi.mono ?_; rintro e w4 ⟨⟨v4, rfl⟩, sv⟩))
        go_roundw
        case rel => exact ⟨_, sv, HM.out.2⟩
        case measure =>
          obtain ⟨D4, hv4, _⟩ := sv
          rw [seg_of hv4.sg]
          have := HM.out.1
          simp only
          omega
      · have hd := openZ_done (s := st.s) (zs := st.zs) (k := n) (L := L') (by omega)
        have HO : Hid (openZ st.s st.zs n st.L = (curA L', true, curL L')) := by rw [← HS.out.2.2]; exact hd.trans (by rw [hb])
        obtain ⟨R, hR⟩ : ∃ R, R = roomZ st.s st.zs (curA L') := ⟨_, rfl⟩
        rw [← hR] at hr
        rw [hb] at HC
        have HC2 : Hid (Calls Tryz.prog 117 #[.pointer (some ⟨k.ps, 0, none⟩)] wr fun e w' => e = .returned (.tuple #[.int .i64 (curA L'), .bool true]) ∧ Calls Tryz.prog 61 #[.pointer (some ⟨k.ps, 0, none⟩), .int .i64 (curA L')] w' fun e w'' => e = .returned (.int .i64 R) ∧ Sv D W k { st with L := curL L' } c w'') := by
          refine HC.out.mono ?_
          rintro e w' ⟨rfl, D2, hv2, hD2, ho2⟩
          refine ⟨rfl, (sroom_of (curA L') hv2).mono ?_⟩
          rintro e w'' ⟨rfl, hb2⟩
          exact ⟨by rw [hR], D2, hv2.under hb2, hD2, ho2.under hb2⟩
        clear HC hb hd hR
        go_wp2_with (first
          | (go_at_call 117; refine HC2.out.mono ?_; rintro e w2 ⟨rfl, hro⟩)
          | (go_at_call 61; refine hro.mono ?_; rintro e w3 ⟨rfl, sv⟩))
        go_ret2
        rw [HO.out]
        exact ⟨rfl, sv⟩
theorem PtsIn.at (X : Nat → Prop) {w : World} {a : Option Addr} {n : Nat} {l : List Pt} (h : PtsIn X w a n l) {i : Nat} (hi : i < n) : ∃ (p : Pt) (b off : Nat), l[i]? = some p ∧ a = some ⟨b, off, none⟩ ∧ X b ∧ PtAt X w b (off + i * 4) p := by
  obtain ⟨b, off, rfl, hb, hc⟩ := h.2.2.resolve_left (by omega)
  have : i < l.length := by rw [h.1]; exact hi
  exact ⟨l[i], b, off, by simp [this], rfl, hb, hc i _ (by simp [this])⟩
theorem pdrop_at {α : Type} {l : List α} {j : Nat} {p : α} (h : l[j]? = some p) : l.drop j = p :: l.drop (j + 1) := by
  have hj := (List.getElem?_eq_some_iff.1 h).1
  have e := (List.getElem?_eq_some_iff.1 h).2
  rw [List.drop_eq_getElem_cons hj, e]
theorem frN_end {l : List Pt} {i j n : Nat} {d : Int} (hl : l.length = n) (h : j = n ∨ j = i) : frN (l.drop j) (i - j) d = 0 := by
  rcases h with h | h
  · rw [List.drop_of_length_le (by omega)]
    rfl
  · subst h
    rw [Nat.sub_self]
    cases l.drop j <;> rfl
theorem frN_step {l : List Pt} {i j : Nat} {d : Int} {p : Pt} (hp : l[j]? = some p) (hi : j < i) : frN (l.drop j) (i - j) d = if p.x = true then frN (l.drop (j + 1)) (i - (j + 1)) d + 1 else if 0 < d then frN (l.drop (j + 1)) (i - (j + 1)) (d - 1) + 1 else 0 := by
  rw [pdrop_at hp, show i - j = (i - (j + 1)) + 1 by omega]
  rfl
set_option maxHeartbeats 2000000 in
theorem front_of (a : Option Addr) (n cc : Nat) (l : List Pt) (X : Nat → Prop) (i : Nat) (d : Int) (h : PtsIn X W a n l) (hcc : n ≤ cc) (hi : i ≤ 1000) (hd : -1 ≤ d ∧ d ≤ 10000) : Calls Tryz.prog 59 #[.slice a n cc, .int .i64 (i : Nat), .int .i64 d] W fun e w' => e = .returned (.slice a (frN l i d) cc) ∧ Below W.heap.size W w' := by
  have hn : n ≤ 1000 := h.2.1
  have H : Hid (PtsIn X W a n l) := h
  clear h
  go_enter Tryz.func59, Tryz.ntmps59
  go_wp2
  go_step3
  go_wp2
  go_step3
  go_wp2
  go_loopw [2, 7] (fun dv nv wr => ∃ (j : Nat) (d' : Int), nv = .int .i64 j ∧ dv = .int .i64 d' ∧ -1 ≤ d' ∧ d' ≤ 10000 ∧ j ≤ n ∧ j ≤ i ∧ frN l i d = j + frN (l.drop j) (i - j) d' ∧ wr = W) (fun _ nv _ => n - (intOf nv).toNat)
  case atStart => exact ⟨0, d, rfl, rfl, hd.1, hd.2, Nat.zero_le _, Nat.zero_le _, by simp, rfl⟩
  case round =>
    obtain ⟨j, d', rfl, rfl, hd1, hd2, hjn, hji, hf, rfl⟩ := hrel
    have HF : Hid (frN l i d = j + frN (l.drop j) (i - j) d') := hf
    clear hf
    by_cases hlt : j < n ∧ j < i
    · obtain ⟨hjn', hji'⟩ := hlt
      obtain ⟨p, b, off, hp, rfl, hb, A, L, C, hc, _⟩ := H.out.at X hjn'
      have x2 : wr.cell? ⟨b, off + j * 4 + 2, none⟩ = some (.bool p.x) := hc 2 _ rfl
      have hstep := frN_step (d := d') hp hji'
      have hwk : IntKind.i64.wrap ((j : Int) + 1) = (j : Int) + 1 := by rw [IntKind.wrap_i64]; omega
      have hwd : IntKind.i64.wrap (d' - 1) = d' - 1 := by rw [IntKind.wrap_i64]; omega
      clear hc
      cases hx : p.x with
      | true =>
        rw [hx, if_pos rfl] at hstep
        have HF2 : Hid (frN l i d = (j + 1) + frN (l.drop (j + 1)) (i - (j + 1)) d') := by have := HF.out; rw [hstep] at this; exact (by omega : frN l i d = (j + 1) + frN (l.drop (j + 1)) (i - (j + 1)) d')
        rw [hx] at x2
        clear hx hstep hp
        rcases Nat.lt_or_ge i n with hin | hin
        all_goals (
          go_wp2
          go_roundw
          case rel => exact ⟨j + 1, d', by simp, rfl, hd1, hd2, by omega, by omega, HF2.out, trivial⟩
          case measure => simp [intOf]; omega)
      | false =>
        rw [hx, if_neg (by decide)] at hstep
        rw [hx] at x2
        clear hx hp
        rcases Int.lt_or_le 0 d' with hd0 | hd0
        · rw [if_pos hd0] at hstep
          have HF2 : Hid (frN l i d = (j + 1) + frN (l.drop (j + 1)) (i - (j + 1)) (d' - 1)) := by have := HF.out; rw [hstep] at this; exact (by omega : frN l i d = (j + 1) + frN (l.drop (j + 1)) (i - (j + 1)) (d' - 1))
          clear hstep
          rcases Nat.lt_or_ge i n with hin | hin
          all_goals (
            go_wp2
            go_roundw
            case rel => exact ⟨j + 1, d' - 1, by simp, rfl, by omega, by omega, by omega, by omega, HF2.out, trivial⟩
            case measure => simp [intOf]; omega)
        · rw [if_neg (by omega)] at hstep
          have HF2 : Hid (frN l i d = j) := by have := HF.out; rw [hstep] at this; exact this
          clear hstep
          have hd0' : ¬ 0 < d' := by omega
          rcases Nat.lt_or_ge i n with hin | hin
          all_goals (
            go_wp2
            all_goals (
              go_ret
              exact ⟨by rw [HF2.out]; rfl, Below.refl _ _⟩))
    · have HF2 : Hid (frN l i d = j) := by have := HF.out; rw [frN_end H.out.1 (by omega)] at this; exact this
      rcases Nat.lt_or_ge i n with hin | hin
      · obtain rfl : j = i := by omega
        go_wp2
        all_goals (
          first | go_ret | (rw [Exit.noGoto_ret]; go_ret)
          exact ⟨by rw [HF2.out]; rfl, Below.refl _ _⟩)
      · obtain rfl : j = n := by omega
        go_wp2
        all_goals (
          first | go_ret | (rw [Exit.noGoto_ret]; go_ret)
          exact ⟨by rw [HF2.out]; rfl, Below.refl _ _⟩)
set_option maxHeartbeats 2000000 in
theorem item_of (p : Pt) (A : Option Addr) (L C : Nat) (h : BIn W A L p.d) (hL : L ≤ 10000) : Calls Tryz.prog 119 #[ptV p (.slice A L C)] W fun e w' => e = .returned (.agg #[.int .u32 (itP p).t, .int .u64 (itP p).b, .int .u8 (itP p).k, .int .u32 (itP p).s, .int .u16 (itP p).e]) ∧ Below W.heap.size W w' := by
  obtain ⟨t, b, x, d⟩ := p
  unfold ptV
  cases x
  · obtain ⟨E, hE⟩ : ∃ E, E = endsN d := ⟨_, rfl⟩
    obtain ⟨Z, hZ⟩ : ∃ Z, Z = crI 0 d := ⟨_, rfl⟩
    have hE1 : E ≤ L := by have := (ends_at d).1; rw [hE, ← h.1]; exact this
    have hwE : IntKind.u16.wrap (E : Int) = (E : Int) := by rw [IntKind.wrap_u16]; omega
    have HI : Hid (itP ⟨t, b, false, d⟩ = ⟨t, b, 1, Z, (E : Nat)⟩) := by rw [hE, hZ]; exact rfl
    have HB : Hid (∀ X, Below W.heap.size W X → BIn X A L d) := fun X hX => h.below hX
    have HS : Hid (∀ (X : World) (g : Nat), X.cell? ⟨g, 0, none⟩ = some (.slice A L C) → Below W.heap.size W X → Calls Tryz.prog 158 #[.slice (some ⟨g, 0, none⟩) 1 1] X fun e w' => e = .returned (.int .u32 Z) ∧ w' = X) := fun X g hc hX => by rw [hZ]; exact crcSum_of g A L C 1 d X hc (h.below hX)
    have HN : Hid (∀ X, Below W.heap.size W X → Calls Tryz.prog 159 #[.slice A L C] X fun e w' => e = .returned (.int .i64 (E : Nat)) ∧ w' = X) := fun X hX => by rw [hE]; exact ends_of A L C d X (h.below hX)
    clear h hE hZ
    obtain ⟨q, hq⟩ : ∃ q, q = W.heap.size := ⟨_, rfl⟩
    have HW : Hid (∀ X, X = (((W.alloc (.cells #[.int .u32 t, .int .u64 b, .bool false, .slice A L C] 42)).alloc (.cells #[.int .u32 0, .int .u64 0, .int .u8 0, .int .u32 0, .int .u16 0] 179)).alloc (.cells #[.int .u32 t, .int .u64 b, .int .u8 2, .int .u32 0, .int .u16 0] 179)) → Blk X q [.int .u32 t, .int .u64 b, .bool false, .slice A L C] 42 ∧ Blk X (q + 1) [.int .u32 0, .int .u64 0, .int .u8 0, .int .u32 0, .int .u16 0] 179 ∧ Blk X (q + 1 + 1) [.int .u32 t, .int .u64 b, .int .u8 2, .int .u32 0, .int .u16 0] 179 ∧ Below W.heap.size W X ∧ X.heap.size = q + 1 + 1 + 1) := by
      rintro X rfl
      exact ⟨((Blk.new' hq.symm rfl).alloc _).alloc _, (Blk.new' (by simp [hq]) rfl).alloc _, Blk.new' (by simp [hq]) rfl, (((Below.refl _ _).alloc (Nat.le_refl _) _).alloc (by simp) _).alloc (by simp; omega) _, by simp [hq]⟩
    go_enter Tryz.func119, Tryz.ntmps119
    go_wp2_with fail
    rw [← hq]
    generalize hX : World.alloc (World.alloc (World.alloc W _) _) _ = X
    obtain ⟨hb1, hb0, hb2, hbl, hsz⟩ := HW.out X hX.symm
    have z0 := hb0.cell 0
    have z1 := hb0.cell 1
    have z2 := hb0.cell 2
    have z3 := hb0.cell 3
    have z4 := hb0.cell 4
    have g0 := hb0.frozen 0
    have g1 := hb0.frozen 1
    have g2 := hb0.frozen 2
    have g3 := hb0.frozen 3
    have g4 := hb0.frozen 4
    have x3 := hb1.cell 3
    have y0 := hb2.cell 0
    have y1 := hb2.cell 1
    have y2 := hb2.cell 2
    have y3 := hb2.cell 3
    have y4 := hb2.cell 4
    have f2 := hb2.frozen 2
    have f3 := hb2.frozen 3
    have f4 := hb2.frozen 4
    simp only [List.getElem?_cons_zero, List.getElem?_cons_succ] at x3 y0 y1 y2 y3 y4 z0 z1 z2 z3 z4
    have n1 : q ≠ q + 1 + 1 := by omega
    have n2 : q + 1 + 1 ≠ q := by omega
    have n3 : q + 1 + 1 + 1 ≠ q + 1 + 1 := by omega
    have n4 : q + 1 + 1 ≠ q + 1 + 1 + 1 := by omega
    have n5 : q + 1 ≠ q + 1 + 1 := by omega
    have n6 : q + 1 + 1 ≠ q + 1 := by omega
    have n7 : q + 1 ≠ q + 1 + 1 + 1 := by omega
    have n8 : q + 1 + 1 + 1 ≠ q + 1 := by omega
    have HX : Hid (Blk X (q + 1) [.int .u32 0, .int .u64 0, .int .u8 0, .int .u32 0, .int .u16 0] 179 ∧ Below W.heap.size W X ∧ q = W.heap.size) := ⟨hb0, hbl, hq⟩
    clear hb0 hb1 hb2 hbl hq hX HW
    go_region_with (first
      | (go_at_call 158; refine (HS.out _ _ (by first | exact (Blk.new' hsz rfl).drew.cell 0 | exact (Blk.new' hsz rfl).cell 0) (by first | exact below_drew (HX.out.2.1.alloc HX.out.2.1.size _) | exact HX.out.2.1.alloc HX.out.2.1.size _)).mono ?_; rintro e w' ⟨rfl, rfl⟩)
      | (go_at_call 159; refine (HN.out _ (by first | exact below_drew (HX.out.2.1.alloc HX.out.2.1.size _) | exact HX.out.2.1.alloc HX.out.2.1.size _)).mono ?_; rintro e w' ⟨rfl, rfl⟩))
    all_goals go_wp2
    all_goals (
      have hfin := (((((((((HX.out.1.set_other (a := ⟨q + 1 + 1, 2, none⟩) n5 (.int .u8 1)).set_other (a := ⟨q + 1 + 1, 3, none⟩) n5 (.int .u32 Z)).set_other (a := ⟨q + 1 + 1, 4, none⟩) n5 (.int .u16 (E : Nat))).set 0 (.int .u32 t)).set 1 (.int .u64 b)).set 2 (.int .u8 1)).set 3 (.int .u32 Z)).set 4 (.int .u16 (E : Nat))).alloc (.cells #[.slice A L C] 36)).drew
      refine bodyPost_ret (results_cell_one (p := 2) (ty := 179) rfl _ _ _ _ _ _ rfl hfin Tryz.underlying179 rfl Tryz.info_item) rfl ⟨by rw [HI.out]; rfl, ?_⟩
      have hq := HX.out.2.2
      refine below_drew (Below.alloc ?_ (by simp; omega) _)
      repeat refine Below.setCell ?_ (by simp; omega) _
      exact HX.out.2.1)
  · obtain ⟨q, hq⟩ : ∃ q, q = W.heap.size := ⟨_, rfl⟩
    have HW : Hid (∀ X, X = (((W.alloc (.cells #[.int .u32 t, .int .u64 b, .bool true, .slice A L C] 42)).alloc (.cells #[.int .u32 t, .int .u64 b, .int .u8 2, .int .u32 0, .int .u16 0] 179)).alloc (.cells #[.int .u32 t, .int .u64 b, .int .u8 2, .int .u32 0, .int .u16 0] 179)) → Blk X (W.heap.size + 1) [.int .u32 t, .int .u64 b, .int .u8 2, .int .u32 0, .int .u16 0] 179 ∧ Below W.heap.size W X) := by
      rintro X rfl
      exact ⟨(Blk.new' (by simp) rfl).alloc _, (((Below.refl _ _).alloc (Nat.le_refl _) _).alloc (by simp) _).alloc (by simp; omega) _⟩
    go_enter Tryz.func119, Tryz.ntmps119
    go_wp2_with fail
    exact bodyPost_ret (results_cell_one (p := 2) (ty := 179) rfl _ _ _ _ _ _ rfl (HW.out _ rfl).1 Tryz.underlying179 rfl Tryz.info_item) rfl ⟨rfl, (HW.out _ rfl).2⟩
end
end Go.Proofs.YtfcbcpjcmihooaaGreat

/- What one call of write of the store does. -/
namespace Go.Proofs.YtfcbcpjcmihooaaGreat
open Go.RowKit
set_option linter.unusedVariables false
set_option maxRecDepth 4000
theorem wrap_inc (q : Int) : IntKind.u64.wrap (q + 1) = incU q := by
  simp [IntKind.wrap, incU, IntKind.bits, IntKind.signed]
theorem PtsIn.len {X : Nat → Prop} {w : World} {a : Option Addr} {n : Nat} {l : List Pt} (h : PtsIn X w a n l) : ∀ p ∈ l, p.d.length ≤ 10000 := by
  intro p hp
  obtain ⟨i, hi⟩ := List.getElem?_of_mem hp
  rcases h.2.2 with h0 | ⟨b, off, _, _, hc⟩
  · have := (List.getElem?_eq_some_iff.1 hi).1; have := h.1; omega
  · obtain ⟨_, _, _, _, h2, _, h4, _⟩ := hc i p hi
    have := h2.1
    omega
theorem itP_fits {p : Pt} (h : p.Fits) (hl : p.d.length ≤ 10000) : (itP p).Fits := by
  have he : endsN p.d ≤ p.d.length := (ends_at p.d).1
  unfold itP
  split
  · exact ⟨h.1, h.2.1, by show Fits8 2; unfold Fits8; omega, by show Fits32 0; unfold Fits32; omega, by show Fits16 0; unfold Fits16; omega⟩
  · exact ⟨h.1, h.2.1, by show Fits8 1; unfold Fits8; omega, crI_fits (by unfold Fits32; omega) h.2.2, by show Fits16 ((endsN p.d : Nat) : Int); unfold Fits16; omega⟩
theorem encB_len (q : Int) (xs : List It) (b : Int) : (encB q xs b).length ≤ 4096 := by
  unfold encB
  split
  · rename_i h
    have := h.bounds
    rw [enc_length (by omega)]
    omega
  · simp
theorem encB_fits (q : Int) (xs : List It) (b : Int) : ∀ z ∈ encB q xs b, Fits8 z := by
  unfold encB
  split
  · exact enc_fits _ _ _
  · simp
/-- The record that is being filled. -/
structure WI (q : Nat) (V wr : World) (S : Int) (A : Option Addr) (j C : Nat) (xs : List It) : Prop where
  rc : Blk wr q [.int .u64 S, .slice A j C] 177
  ow : wr.ownsRow (q + 1) 179 5 (.slice A j C) j (itC xs)
  bel : Below q V wr
section
variable {q : Nat} {V wr w' : World} {S : Int} {A : Option Addr} {j C : Nat} {xs : List It}
theorem WI.below (h : WI q V wr S A j C xs) (hb : Below wr.heap.size wr w') : WI q V w' S A j C xs := by
  have h1 := h.rc.lt
  refine ⟨h.rc.below hb h1, ?_, h.bel.trans (hb.mono (by omega))⟩
  refine ⟨h.ow.1, ?_⟩
  rcases h.ow.2 with h2 | ⟨g, cap, cur, hv, hbg, hg, hr⟩
  · exact .inl h2
  · exact .inr ⟨g, cap, cur, hv, hbg, by rw [hb.block g (Array.getElem?_eq_some_iff.1 hg).1]; exact hg, hr⟩
theorem WI.more {A' : Option Addr} {C' : Nat} {x : It} (h : WI q V wr S A j C xs) (ho : w'.ownsRow (q + 1) 179 5 (.slice A' (j + 1) C') (j + 1) (itC (xs ++ [x]))) (hb : Below (q + 1) wr w') : WI q V (w'.setCell ⟨q, 1, none⟩ (.slice A' (j + 1) C')) S A' (j + 1) C' (xs ++ [x]) :=
  ⟨(h.rc.below hb (by omega)).set 1 _, ownsItems_set ho (by show q < q + 1; omega) _, (h.bel.trans (hb.mono (by omega))).setCell (by show q ≤ q; omega) _⟩
end
section
variable {D : Nat → Prop} {W : World} {k : Bs} {st : St} {c : Nat}
theorem StV.poke {g : Nat} (h : StV D W k st c) (hg : ¬ StO D k g) (i : Nat) (u : Value) : StV D (W.setCell ⟨g, i, none⟩ u) k st c :=
  h.out (out_one W g i u) (fun x hx e => hg (e ▸ hx))
theorem appA_fits {s : Sh} {zs : List Zn} (h : Wf s zs) {z : Nat} (hz : z < zs.length) (E : List Int) : FitsS (appA s zs z E) := by
  have h1 := h.at_le z
  have h2 := h.right.2.2.2.1
  have h3 := h.len
  have h4 := h.right.2.1
  unfold appA
  split
  · split
    · exact ⟨by show I64 0; unfold I64; omega, by show I64 0; unfold I64; omega⟩
    · exact ⟨by show I64 (z : Int); unfold I64; omega, by show I64 _; unfold I64; omega⟩
  · exact ⟨by show I64 0; unfold I64; omega, by show I64 0; unfold I64; omega⟩
set_option maxHeartbeats 8000000 in
theorem write_of (z : Nat) (h : StV D W k st c) (hz : z < st.zs.length) (a : Option Addr) (n cc : Nat) (l : List Pt) (X : Nat → Prop) (hl : PtsIn X W a n l) (hX : ∀ x, X x → ¬ StO D k x ∧ x < W.heap.size) (hc : c + n < 100000) :
    Calls Tryz.prog 62 #[.pointer (some ⟨k.ps, 0, none⟩), .int .i64 (z : Nat), .slice a n cc] W fun e w' => e = .returned (.tuple #[]) ∧ Sv D W k (writeM st z l) (c + n) w' := by
  obtain ⟨c0, c1, c2, c3, c4, c5⟩ := h.cells
  have f3 := h.hp.frozen 3
  have hq := wrap_inc st.q
  have H : Hid (StV D W k st c ∧ PtsIn X W a n l ∧ (∀ x, X x → ¬ StO D k x ∧ x < W.heap.size) ∧ c + n < 100000 ∧ z < st.zs.length) := ⟨h, hl, hX, hc, hz⟩
  have HV1 : Hid (Sv D W k { st with q := incU st.q } c (W.setCell ⟨k.ps, 3, none⟩ (.int .u64 (incU st.q)))) := h.setP (q := incU st.q) (o := st.o) rfl (incU_fits _)
  have hlaz : z < st.la.length := by rw [h.len.2]; exact hz
  have hn1 := hl.2.1
  clear h hl hX hc hz
  go_enter Tryz.func62, Tryz.ntmps62
  go_upto_region 1 with fail
  clear c0 c1 c2 c3 c4 c5 f3 hq
  generalize hW1 : World.setCell W _ _ = W1 at HV1 ⊢
  clear hW1
  obtain ⟨D1, hv1, hD1, ho1⟩ := HV1.out
  obtain ⟨c0, c1, c2, c3, c4, c5⟩ := hv1.cells
  obtain ⟨old, y0⟩ : ∃ old, W1.cell? ⟨k.lb, z, none⟩ = some (.int .u64 old) := ⟨st.la[z], by rw [hv1.hl.cell]; simp [kInts, hlaz]⟩
  have yf := hv1.hl.frozen z
  have n1 : k.ps ≠ k.lb := (nodup7 hv1.ap).1.2.2.2.2.2
  have n2 : k.lb ≠ k.ps := fun e => n1 e.symm
  have HV2 : Hid (Sv D W k { st with q := incU st.q, la := st.la.set z (incU st.q) } c (W1.setCell ⟨k.lb, z, none⟩ (.int .u64 (incU st.q)))) := Sv.next hD1 ho1 (hv1.setLa z (incU st.q))
  clear hv1 hD1 ho1 HV1 c0 c1 c2 c5
  simp only at c3 c4
  go_region
  clear c3 c4 y0 yf n1 n2 hlaz
  have HV3 : Hid (Sv D W k { st with q := incU st.q, la := st.la.set z (incU st.q) } c (W1.setCell ⟨k.lb, z, none⟩ (.int .u64 (incU st.q))).drew) := HV2.out.under (Below.refl _ _).drew
  clear HV2
  generalize World.drew (World.setCell W1 _ _) = W2 at HV3 ⊢
  clear W1
  obtain ⟨D2, hv2, hD2, ho2⟩ := HV3.out
  obtain ⟨_, _, _, c3, _⟩ := hv2.cells
  simp only at c3
  obtain ⟨q, hq⟩ : ∃ q, q = W2.heap.size := ⟨_, rfl⟩
  have HR : Hid (Blk (W2.alloc (.cells #[.int .u64 (incU st.q), .slice none 0 0] 177)) q [.int .u64 (incU st.q), .slice none 0 0] 177 ∧ Below q W2 (W2.alloc (.cells #[.int .u64 (incU st.q), .slice none 0 0] 177)) ∧ (W2.alloc (.cells #[.int .u64 (incU st.q), .slice none 0 0] 177)).heap.size = q + 1) := ⟨Blk.new' hq.symm rfl, (Below.refl _ _).alloc (by omega) _, by simp [hq]⟩
  have HQ : Hid (q = W2.heap.size) := hq
  clear hv2 hD2 ho2
  go_wp2_with fail
  rw [← hq]
  clear hq c3
  generalize World.alloc W2 _ = W3 at HR ⊢
  have HW3 : Hid (WI q W2 W3 (incU st.q) none 0 0 []) := ⟨HR.out.1, World.ownsRow_nil _ _ _ _, HR.out.2.1⟩
  have HP : Hid (∀ V, Below q W2 V → PtsIn X V a n l) := fun V hb => by
    obtain ⟨D2, hv2, hD2, ho2⟩ := HV3.out
    exact (H.out.2.1.out ho2 (fun x hx => (H.out.2.2.1 x hx).1)).out (below_out' (O := fun j => q ≤ j) hb (fun j h _ => h)) (fun x hx => by have := (H.out.2.2.1 x hx).2; have := ho2.size; have := HQ.out; omega)
  clear HR
  go_loopw [39] (fun x wr => ∃ (j : Nat) (A : Option Addr) (C : Nat), x = .int .i64 j ∧ j ≤ n ∧ WI q W2 wr (incU st.q) A j C ((l.take j).map itP)) (fun x _ => n - (intOf x).toNat)
  case atStart => exact ⟨0, none, 0, rfl, Nat.zero_le _, by simpa using HW3.out⟩
  case round =>
    obtain ⟨j, A, C, rfl, hj, hw⟩ := hrel
    rcases Nat.lt_or_ge j n with hlt | hge
    · have hj' : (j : Int) < n := by omega
      have hwj : IntKind.i64.wrap ((j : Int) + 1) = (j : Int) + 1 := by rw [IntKind.wrap_i64]; omega
      obtain ⟨p, b, off, hp, rfl, hb, A1, L1, C1, hcl, hbin, _, hL1, _, hfit⟩ := (HP.out wr hw.bel).at X hlt
      have x0 : wr.cell? ⟨b, off + j * 4, none⟩ = some (.int .u32 p.t) := hcl 0 _ rfl
      have x1 : wr.cell? ⟨b, off + j * 4 + 1, none⟩ = some (.int .u64 p.b) := hcl 1 _ rfl
      have x2 : wr.cell? ⟨b, off + j * 4 + 2, none⟩ = some (.bool p.x) := hcl 2 _ rfl
      have x3 : wr.cell? ⟨b, off + j * 4 + 3, none⟩ = some (.slice A1 L1 C1) := hcl 3 _ rfl
      obtain ⟨g, hg⟩ : ∃ g, g = wr.heap.size := ⟨_, rfl⟩
      have HV : Hid (WI q W2 (wr.alloc (.cells #[.int .u32 p.t, .int .u64 p.b, .bool p.x, .slice A1 L1 C1] 42)) (incU st.q) A j C ((l.take j).map itP) ∧ Blk (wr.alloc (.cells #[.int .u32 p.t, .int .u64 p.b, .bool p.x, .slice A1 L1 C1] 42)) g [.int .u32 p.t, .int .u64 p.b, .bool p.x, .slice A1 L1 C1] 42) := ⟨hw.below ((Below.refl _ _).alloc (Nat.le_refl _) _), Blk.new' hg.symm rfl⟩
      have HI : Hid (∀ V, Below g wr V → Calls Tryz.prog 119 #[.agg #[.int .u32 p.t, .int .u64 p.b, .bool p.x, .slice A1 L1 C1]] V fun e w' => e = .returned (.agg #[.int .u32 (itP p).t, .int .u64 (itP p).b, .int .u8 (itP p).k, .int .u32 (itP p).s, .int .u16 (itP p).e]) ∧ Below V.heap.size V w') := fun V hV => item_of p A1 L1 C1 (hbin.below (by rw [← hg]; exact hV)) hL1
      have hBV : Hid (Below g wr (wr.alloc (.cells #[.int .u32 p.t, .int .u64 p.b, .bool p.x, .slice A1 L1 C1] 42))) := (Below.refl _ _).alloc (by omega) _
      have HN : Hid ((l.take (j + 1)).map itP = (l.take j).map itP ++ [itP p]) := by show _ = _; rw [take_snoc hp]; simp
      generalize (l.take j).map itP = xs at HV HN
      clear hcl hbin hL1 hfit hp hw hb
      go_wp2
      rw [← hg]
      clear x0 x1 x2 x3 hg
      generalize World.alloc wr _ = V at HV hBV ⊢
      have v1 : V.cell? ⟨q, 1, none⟩ = some (.slice A j C) := HV.out.1.rc.cell 1
      have y0 : V.cell? ⟨g, 0, none⟩ = some (.int .u32 p.t) := HV.out.2.cell 0
      have y1 : V.cell? ⟨g, 1, none⟩ = some (.int .u64 p.b) := HV.out.2.cell 1
      have y2 : V.cell? ⟨g, 2, none⟩ = some (.bool p.x) := HV.out.2.cell 2
      have y3 : V.cell? ⟨g, 3, none⟩ = some (.slice A1 L1 C1) := HV.out.2.cell 3
      go_region_law (first
        | (go_simp; go_at_call 119; refine (HI.out _ (by first | exact hBV.out.drew | exact hBV.out)).mono ?_; rintro e V4 ⟨rfl, b4⟩; have st4 : WI q W2 V4 (incU st.q) A j C xs := HV.out.1.below ((Below.refl _ _).drew.trans b4); have m2 : V4.cell? ⟨q, 1, none⟩ = some (.slice A j C) := st4.rc.cell 1; have m3 : ∀ o, (V4.alloc o).cell? ⟨q, 1, none⟩ = some (.slice A j C) := fun o => (st4.rc.alloc o).cell 1; obtain ⟨a9, c9, w9, e9, o9, b9⟩ := app_item st4.ow (itP p) (by omega) (by have := st4.rc.lt; omega); have rc9 := st4.rc.below b9 (by omega); have m4 : w9.cell? ⟨q, 1, none⟩ = some (.slice A j C) := rc9.cell 1; have m5 := rc9.frozen 1; have st9 := st4.more o9 b9)
        | (refine cstep_append_run rfl (.tmp 44) (.tmp 47) 175 175 rfl _ _ rfl rfl _ _ e9 ?_))
      all_goals (
        have H9 : Hid (WI q W2 (w9.setCell ⟨q, 1, none⟩ (.slice a9 (j + 1) c9)) (incU st.q) a9 (j + 1) c9 ((l.take (j + 1)).map itP)) := by
          rw [← HN.out] at st9
          exact st9
        clear e9 o9 b9 rc9 m4 m5 st9 st4 b4 m2 m3 v1 y0 y1 y2 y3
        generalize World.setCell w9 _ _ = V9 at H9 ⊢
        go_wp2
        go_roundw
        case rel => exact ⟨j + 1, a9, c9, by simp, by omega, H9.out⟩
        case measure => simp [intOf]; omega)
    · obtain rfl : j = n := by omega
      have HT : Hid (WI q W2 wr (incU st.q) A j C (l.map itP)) := by
        rw [List.take_of_length_le (by rw [H.out.2.1.1]; exact Nat.le_refl _)] at hw
        exact hw
      clear hw HW3 HP
      obtain ⟨D2, hv2, hD2, ho2⟩ := HV3.out
      have hbw : Below W2.heap.size W2 wr := by rw [← HQ.out]; exact HT.out.bel
      have hv := hv2.under hbw
      have HSv : Hid (StV D2 wr k { st with q := incU st.q, la := st.la.set z (incU st.q) } c ∧ (∀ x, D2 x → D x ∨ W.heap.size ≤ x) ∧ Out (StO D k) W wr) := ⟨hv, hD2, ho2.under hbw⟩
      have hits : ItsIn wr A j (l.map itP) := own_its HT.out.ow (by unfold maxLen; omega) (fun x hx => by
        obtain ⟨p, hp, rfl⟩ := List.mem_map.1 hx
        exact itP_fits (H.out.2.1.fits p hp) (PtsIn.len H.out.2.1 p hp))
      have r0 : wr.cell? ⟨q, 0, none⟩ = some (.int .u64 (incU st.q)) := HT.out.rc.cell 0
      have r1 : wr.cell? ⟨q, 1, none⟩ = some (.slice A j C) := HT.out.rc.cell 1
      obtain ⟨s0, _⟩ := hv.cells
      have hfb := Tryz.shape_b (.int .i64 st.s.z) (.int .i64 st.s.zb) (.int .i64 st.s.b) (.int .i64 st.s.r)
      have kc : ∀ Y, Below wr.heap.size wr Y → Y.cell? ⟨q, 0, none⟩ = some (.int .u64 (incU st.q)) ∧ Y.cell? ⟨q, 1, none⟩ = some (.slice A j C) ∧ Y.cell? ⟨k.ps, 0, none⟩ = some (.pointer (some ⟨k.pd, 0, none⟩)) := fun Y hY => ⟨(HT.out.below hY).rc.cell 0, (HT.out.below hY).rc.cell 1, (hv.under hY).cells.1⟩
      have HSh : Hid (∀ Y, Below wr.heap.size wr Y → Calls Tryz.prog 56 #[.pointer (some ⟨k.pd, 0, none⟩)] Y fun e Z => e = .returned (.agg #[.int .i64 st.s.z, .int .i64 st.s.zb, .int .i64 st.s.b, .int .i64 st.s.r]) ∧ Below wr.heap.size wr Z ∧ Z.cell? ⟨q, 0, none⟩ = some (.int .u64 (incU st.q)) ∧ Z.cell? ⟨q, 1, none⟩ = some (.slice A j C) ∧ Z.cell? ⟨k.ps, 0, none⟩ = some (.pointer (some ⟨k.pd, 0, none⟩))) := fun Y hY => by
        refine (dshape_of (hv.under hY).dv).mono ?_
        rintro e Z ⟨rfl, hZ⟩
        have hb := hY.trans (hZ.mono hY.size)
        exact ⟨rfl, hb, kc Z hb⟩
      have HEn : Hid (∀ Y, Below wr.heap.size wr Y → Calls Tryz.prog 120 #[.agg #[.int .u64 (incU st.q), .slice A j C], .int .i64 st.s.b] Y fun e Z => ∃ av nv cv ev, e = .returned (.tuple #[.slice av nv cv, .int .u16 ev]) ∧ (BIn Z av nv (encB (incU st.q) (l.map itP) st.s.b) ∧ (av = none → nv = 0 ∧ cv = 0) ∧ Below wr.heap.size wr Z) ∧ Z.cell? ⟨q, 0, none⟩ = some (.int .u64 (incU st.q)) ∧ Z.cell? ⟨q, 1, none⟩ = some (.slice A j C) ∧ Z.cell? ⟨k.ps, 0, none⟩ = some (.pointer (some ⟨k.pd, 0, none⟩))) := fun Y hY => by
        refine (encode_of (incU st.q) A j C (l.map itP) st.s.b Y (incU_fits _) (hits.below hY)).mono ?_
        rintro e Z ⟨av, nv, cv, rfl, ow, hZ, _⟩
        have hb := hY.trans (hZ.mono hY.size)
        have hnv : nv ≤ maxLen := by
          have h1 := ow.1
          have h2 := encB_len (incU st.q) (l.map itP) st.s.b
          simp [u8s] at h1
          unfold maxLen
          omega
        exact ⟨av, nv, cv, _, rfl, ⟨own_bin ow hnv (encB_fits _ _ _), own_nil ow, hb⟩, kc Z hb⟩
      clear hv hv2 hD2 ho2 hbw hits kc
      go_wp2_with fail
      go_region_held3 (fun Y => Y.cell? ⟨q, 0, none⟩ = some (.int .u64 (incU st.q)) ∧ Y.cell? ⟨q, 1, none⟩ = some (.slice A j C) ∧ Y.cell? ⟨k.ps, 0, none⟩ = some (.pointer (some ⟨k.pd, 0, none⟩))) (first | exact ⟨r0, r1, s0⟩ | exact ⟨d0, d1, d2⟩ | exact ⟨e0, e1, e2⟩)
        (first
        | (go_simp; go_at_call 120; refine (HEn.out _ (by exact bY)).mono ?_; rintro e Z ⟨av, nv, cv, ev, rfl, hZ, e0, e1, e2⟩)
        | (go_simp; go_at_call 56; refine (HSh.out _ (by exact (Below.refl _ _).drew)).mono ?_; rintro e Y ⟨rfl, bY, d0, d1, d2⟩))
      have HZ : Hid (BIn Z av nv (encB (incU st.q) (l.map itP) st.s.b) ∧ (av = none → nv = 0 ∧ cv = 0) ∧ Below wr.heap.size wr Z) := hZ
      clear hZ e0 e1 d0 d1 d2 bY HEn HSh r0 r1 s0 hfb
      have HA : Hid (Calls Tryz.prog 91 #[.pointer (some ⟨k.pd, 0, none⟩), .int .i64 (z : Nat), .slice av nv cv] Z fun e w' => (∃ v, e = .returned v) ∧ Sv D W k { st with q := incU st.q, la := st.la.set z (incU st.q), zs := recZ st z l } c w') := by
        have hvZ := HSv.out.1.under HZ.out.2.2
        refine (append_of (z : Nat) av nv cv _ hvZ.dv hvZ.wf HZ.out.1 HZ.out.2.1 (by have h1 := HZ.out.1.1; have h2 := encB_len (incU st.q) (l.map itP) st.s.b; omega)).mono ?_
        rintro e w' ⟨rfl, hs⟩
        exact ⟨⟨_, rfl⟩, Sv.next HSv.out.2.1 (HSv.out.2.2.under HZ.out.2.2) (hvZ.dvstep hs (hvZ.wf.app _ _))⟩
      go_wp2_with (go_at_call 91; refine HA.out.mono ?_; rintro e W5 ⟨⟨v5, rfl⟩, sv5⟩)
      have H5 : Hid (Sv D W k { st with q := incU st.q, la := st.la.set z (incU st.q), zs := (wrY st z l 0).1, S := (wrY st z l 0).2 } (c + 0) W5) := by rw [wrY_zero]; exact sv5
      clear sv5 HA HZ HT HSv HV3 HQ
      clear hj
      go_loopw [71] (fun x wr => ∃ i : Nat, x = .int .i64 i ∧ i ≤ j ∧ Sv D W k { st with q := incU st.q, la := st.la.set z (incU st.q), zs := (wrY st z l i).1, S := (wrY st z l i).2 } (c + i) wr) (fun x _ => j - (intOf x).toNat)
      case atStart => exact ⟨0, rfl, Nat.zero_le _, H5.out⟩
      case round =>
        obtain ⟨i, rfl, hi, Di, hvi, hDi, hoi⟩ := hrel
        rcases Nat.lt_or_ge i j with hlt2 | hge2
        · have hi' : (i : Int) < j := by omega
          have hwi : IntKind.i64.wrap ((i : Int) + 1) = (i : Int) + 1 := by rw [IntKind.wrap_i64]; omega
          obtain ⟨p, b, off, hp, rfl, hb, A1, L1, C1, hcl, hbin, hnil1, hL1, hX1, hfit⟩ := (H.out.2.1.out hoi (fun x hx => (H.out.2.2.1 x hx).1)).at X hlt2
          have x0 : wr.cell? ⟨b, off + i * 4, none⟩ = some (.int .u32 p.t) := hcl 0 _ rfl
          have x1 : wr.cell? ⟨b, off + i * 4 + 1, none⟩ = some (.int .u64 p.b) := hcl 1 _ rfl
          have x2 : wr.cell? ⟨b, off + i * 4 + 2, none⟩ = some (.bool p.x) := hcl 2 _ rfl
          have x3 : wr.cell? ⟨b, off + i * 4 + 3, none⟩ = some (.slice A1 L1 C1) := hcl 3 _ rfl
          obtain ⟨g, hg⟩ : ∃ g, g = wr.heap.size := ⟨_, rfl⟩
          have hbV : Below wr.heap.size wr (wr.alloc (.cells #[.int .u32 p.t, .int .u64 p.b, .bool p.x, .slice A1 L1 C1] 42)) := (Below.refl _ _).alloc (Nat.le_refl _) _
          have HV : Hid (StV Di (wr.alloc (.cells #[.int .u32 p.t, .int .u64 p.b, .bool p.x, .slice A1 L1 C1] 42)) k { st with q := incU st.q, la := st.la.set z (incU st.q), zs := (wrY st z l i).1, S := (wrY st z l i).2 } (c + i) ∧ (∀ x, Di x → D x ∨ W.heap.size ≤ x) ∧ Out (StO D k) W (wr.alloc (.cells #[.int .u32 p.t, .int .u64 p.b, .bool p.x, .slice A1 L1 C1] 42)) ∧ Blk (wr.alloc (.cells #[.int .u32 p.t, .int .u64 p.b, .bool p.x, .slice A1 L1 C1] 42)) g [.int .u32 p.t, .int .u64 p.b, .bool p.x, .slice A1 L1 C1] 42 ∧ BIn (wr.alloc (.cells #[.int .u32 p.t, .int .u64 p.b, .bool p.x, .slice A1 L1 C1] 42)) A1 L1 p.d ∧ (wr.alloc (.cells #[.int .u32 p.t, .int .u64 p.b, .bool p.x, .slice A1 L1 C1] 42)).heap.size = g + 1) := ⟨hvi.under hbV, hDi, hoi.under hbV, Blk.new' hg.symm rfl, hbin.below hbV, by simp [hg]⟩
          have HP : Hid (l[i]? = some p ∧ (A1 = none → L1 = 0 ∧ C1 = 0) ∧ L1 ≤ 10000 ∧ p.Fits ∧ g = wr.heap.size ∧ (∀ x, Di x → x < g) ∧ (∀ x, k.has x → x < g)) := ⟨hp, hnil1, hL1, hfit, hg, by rw [hg]; exact hvi.lt, by rw [hg]; exact hvi.kin⟩
          clear hcl hbin hnil1 hL1 hX1 hfit hp hb hvi hDi hoi hbV
          cases hx : p.x with
          | true =>
            rw [hx] at x2
            simp only [hx] at HV
            go_wp2_with fail
            rw [← hg]
            clear x0 x1 x2 x3 hg
            generalize World.alloc wr _ = V at HV ⊢
            have y0 : V.cell? ⟨g, 0, none⟩ = some (.int .u32 p.t) := HV.out.2.2.2.1.cell 0
            have y1 : V.cell? ⟨g, 1, none⟩ = some (.int .u64 p.b) := HV.out.2.2.2.1.cell 1
            obtain ⟨_, _, s2, _⟩ := HV.out.1.cells
            have HD : Hid (Calls Tryz.prog 121 #[.pointer (some ⟨k.pm, 0, none⟩), .int .u32 p.t, .int .u64 p.b] V.drew fun e w' => (∃ v, e = .returned v) ∧ Sv D W k { st with q := incU st.q, la := st.la.set z (incU st.q), zs := (wrY st z l (i + 1)).1, S := (wrY st z l (i + 1)).2 } (c + (i + 1)) w' ∧ w'.cell? ⟨k.ps, 2, none⟩ = some (.pointer (some ⟨k.pm, 0, none⟩)) ∧ w'.cell? ⟨g, 0, none⟩ = some (.int .u32 p.t) ∧ w'.cell? ⟨g, 1, none⟩ = some (.int .u64 p.b)) := by
              have hvd := HV.out.1.under (Below.refl _ _).drew
              refine (mDrop_of k.pm k.b1 k.b2 _ _ p.n V.drew hvd.mp ⟨HP.out.2.2.2.1.1, HP.out.2.2.2.1.2.1⟩).mono ?_
              rintro e w' ⟨rfl, h1, h2⟩
              have sv := hvd.mpstep h1 h2
              obtain ⟨D9, hv9, hD9, ho9⟩ := sv
              have bg := ho9.blk (HV.out.2.2.2.1.drew) (fun h => by rcases h with h | h; exact absurd (HP.out.2.2.2.2.2.1 g h) (by omega); exact absurd (HP.out.2.2.2.2.2.2 g h) (by omega))
              refine ⟨⟨_, rfl⟩, Sv.mono (c := c + i) ?_ (by omega), hv9.cells.2.2.1, bg.cell 0, bg.cell 1⟩
              rw [wrY_next HP.out.1]
              unfold oneP
              rw [if_pos hx]
              exact Sv.next HV.out.2.1 (HV.out.2.2.1.under (Below.refl _ _).drew) ⟨D9, hv9, hD9, ho9⟩
            clear hx
            go_region_held3 (fun Y => Y.cell? ⟨k.ps, 2, none⟩ = some (.pointer (some ⟨k.pm, 0, none⟩)) ∧ Y.cell? ⟨g, 0, none⟩ = some (.int .u32 p.t) ∧ Y.cell? ⟨g, 1, none⟩ = some (.int .u64 p.b)) (first | exact ⟨s2, y0, y1⟩ | exact ⟨t2, z0, z1⟩)
              (first | (go_simp; go_at_call 121; refine HD.out.mono ?_; rintro e V9 ⟨⟨v9, rfl⟩, sv9, t2, z0, z1⟩))
            all_goals (
              have H9 : Hid (Sv D W k { st with q := incU st.q, la := st.la.set z (incU st.q), zs := (wrY st z l (i + 1)).1, S := (wrY st z l (i + 1)).2 } (c + (i + 1)) V9) := sv9
              clear sv9 y0 y1 s2 t2 z0 z1
              go_wp2
              go_roundw
              case rel => exact ⟨i + 1, by simp, by omega, H9.out⟩
              case measure => simp [intOf]; omega)
          | false =>
            rw [hx] at x2
            simp only [hx] at HV
            go_wp2_with fail
            rw [← hg]
            clear x0 x1 x2 x3 hg
            generalize World.alloc wr _ = V at HV ⊢
            have y0 : V.cell? ⟨g, 0, none⟩ = some (.int .u32 p.t) := HV.out.2.2.2.1.cell 0
            have y1 : V.cell? ⟨g, 1, none⟩ = some (.int .u64 p.b) := HV.out.2.2.2.1.cell 1
            have y3 : V.cell? ⟨g, 3, none⟩ = some (.slice A1 L1 C1) := HV.out.2.2.2.1.cell 3
            obtain ⟨s0, _, s2, _⟩ := HV.out.1.cells
            obtain ⟨aa, haa⟩ : ∃ aa, aa = appA st.s (wrY st z l i).1 z p.d := ⟨_, rfl⟩
            have HAA : Hid (aa = appA st.s (wrY st z l i).1 z p.d) := haa
            clear haa
            have HAp : Hid (∀ Y, Below V.heap.size V Y → Calls Tryz.prog 91 #[.pointer (some ⟨k.pd, 0, none⟩), .int .i64 (z : Nat), .slice A1 L1 C1] Y fun e Z => ∃ ev, e = .returned (.tuple #[.agg #[.int .i64 aa.1, .int .i64 aa.2], .int .u16 ev]) ∧ (Sv D W k { st with q := incU st.q, la := st.la.set z (incU st.q), zs := appZ st.s (wrY st z l i).1 z p.d, S := (wrY st z l i).2 } (c + i) Z ∧ Blk Z g [.int .u32 p.t, .int .u64 p.b, .bool false, .slice A1 L1 C1] 42) ∧ (∀ g' L t, g + 1 ≤ g' → Blk Y g' L t → Blk Z g' L t) ∧ Z.cell? ⟨k.ps, 0, none⟩ = some (.pointer (some ⟨k.pd, 0, none⟩)) ∧ Z.cell? ⟨g, 3, none⟩ = some (.slice A1 L1 C1) ∧ (∀ o, (Z.alloc o).cell? ⟨k.ps, 0, none⟩ = some (.pointer (some ⟨k.pd, 0, none⟩))) ∧ (∀ o, (Z.alloc o).cell? ⟨g, 3, none⟩ = some (.slice A1 L1 C1)) ∧ (∀ g', g + 1 ≤ g' → g' < Y.heap.size → ∀ u1 u2, Sv D W k { st with q := incU st.q, la := st.la.set z (incU st.q), zs := appZ st.s (wrY st z l i).1 z p.d, S := (wrY st z l i).2 } (c + i) ((Z.setCell ⟨g', 0, none⟩ u1).setCell ⟨g', 1, none⟩ u2))) := fun Y hY => by
              have hvd := HV.out.1.under hY
              refine (append_of (z : Nat) A1 L1 C1 p.d hvd.dv hvd.wf (HV.out.2.2.2.2.1.below hY) HP.out.2.1 (by have := HP.out.2.2.1; omega)).mono ?_
              rintro e w' ⟨rfl, hs⟩
              have sv := hvd.dvstep hs (hvd.wf.app _ _)
              obtain ⟨D9, hv9, hD9, ho9⟩ := sv
              have hno : ∀ x, g ≤ x → ¬ StO Di k x := fun x hx h => by rcases h with h | h; exact absurd (HP.out.2.2.2.2.2.1 x h) (by omega); exact absurd (HP.out.2.2.2.2.2.2 x h) (by omega)
              have bg := ho9.blk (HV.out.2.2.2.1.below hY HV.out.2.2.2.1.lt) (hno g (Nat.le_refl _))
              exact ⟨_, by rw [HAA.out], ⟨Sv.next HV.out.2.1 (HV.out.2.2.1.under hY) ⟨D9, hv9, hD9, ho9⟩, bg⟩, fun g' L t hg' hb => ho9.blk hb (hno g' (by omega)), hv9.cells.1, bg.cell 3, fun o => (hv9.hp.alloc o).cell 0, fun o => (bg.alloc o).cell 3, fun g' h1 h2 u1 u2 => by
                have hn9 : ¬ StO D9 k g' := fun h => by
                  rcases h with h | h
                  · rcases hD9 g' h with h | h
                    · exact absurd (HP.out.2.2.2.2.2.1 g' h) (by omega)
                    · omega
                  · exact absurd (HP.out.2.2.2.2.2.2 g' h) (by omega)
                have hWg : W.heap.size ≤ g' := by have e1 := HV.out.2.2.1.size; have e2 := HV.out.2.2.2.2.2; omega
                exact ⟨D9, (hv9.poke hn9 0 u1).poke hn9 1 u2, fun x hx => by
                  rcases hD9 x hx with h | h
                  · exact HV.out.2.1 x h
                  · have e1 := HV.out.2.2.1.size; have e2 := hY.size; exact .inr (by omega), (((HV.out.2.2.1.under hY).trans ho9 (fun j hj => by
                    rcases hj with hj | hj
                    · rcases HV.out.2.1 j hj with h | h
                      · exact .inl (.inl h)
                      · exact .inr h
                    · exact .inl (.inr hj))).setCell (p := ⟨g', 0, none⟩) (.inr hWg) u1).setCell (p := ⟨g', 1, none⟩) (.inr hWg) u2⟩⟩
            have HPut : Hid (∀ (V7 : World) (ga : Nat), g < ga → Sv D W k { st with q := incU st.q, la := st.la.set z (incU st.q), zs := appZ st.s (wrY st z l i).1 z p.d, S := (wrY st z l i).2 } (c + i) V7 → Blk V7 g [.int .u32 p.t, .int .u64 p.b, .bool false, .slice A1 L1 C1] 42 → Blk V7 ga [.int .i64 aa.1, .int .i64 aa.2] 60 → Calls Tryz.prog 95 #[.pointer (some ⟨k.pm, 0, none⟩), .agg #[.int .u32 p.t, .int .u64 p.b, .int .i64 aa.1, .int .i64 aa.2]] V7.drew fun e w' => (∃ v, e = .returned v) ∧ Sv D W k { st with q := incU st.q, la := st.la.set z (incU st.q), zs := (wrY st z l (i + 1)).1, S := (wrY st z l (i + 1)).2 } (c + (i + 1)) w' ∧ w'.cell? ⟨k.ps, 2, none⟩ = some (.pointer (some ⟨k.pm, 0, none⟩)) ∧ w'.cell? ⟨g, 0, none⟩ = some (.int .u32 p.t) ∧ w'.cell? ⟨g, 1, none⟩ = some (.int .u64 p.b) ∧ w'.cell? ⟨ga, 0, none⟩ = some (.int .i64 aa.1) ∧ w'.cell? ⟨ga, 1, none⟩ = some (.int .i64 aa.2)) := by
              intro V7 ga hga sv bp ba
              obtain ⟨D7, hv7, hD7, ho7⟩ := sv
              have hvd := hv7.under (Below.refl _ _).drew
              have hwi : z < (wrY st z l i).1.length := by have e1 := HV.out.1.wf.len; have e2 := H.out.1.wf.len; have := H.out.2.2.2.2; simp only at e1; omega
              refine (mPut_of k.pm k.b1 k.b2 _ _ (p.n, aa) V7.drew hvd.mp ⟨⟨HP.out.2.2.2.1.1, HP.out.2.2.2.1.2.1⟩, by rw [HAA.out]; exact appA_fits HV.out.1.wf hwi _⟩ (by have := H.out.2.2.2.1; omega)).mono ?_
              rintro e w' ⟨rfl, h1, h2⟩
              have sv := hvd.mpstep h1 h2
              have hno : ∀ x, g ≤ x → ¬ Two k.b1 k.b2 x := fun x hx h => by
                rcases h with h | h
                · exact absurd (HP.out.2.2.2.2.2.2 x (by rw [h]; exact .inr (.inr (.inr (.inr (.inl rfl)))))) (by omega)
                · exact absurd (HP.out.2.2.2.2.2.2 x (by rw [h]; exact .inr (.inr (.inr (.inr (.inr (.inl rfl))))))) (by omega)
              have bg := h2.blk bp.drew (hno g (Nat.le_refl _))
              have bga := h2.blk ba.drew (hno ga (by omega))
              obtain ⟨D9, hv9, hD9, ho9⟩ := sv
              refine ⟨⟨_, rfl⟩, Sv.mono (c := c + i + 1) ?_ (by omega), hv9.cells.2.2.1, bg.cell 0, bg.cell 1, bga.cell 0, bga.cell 1⟩
              rw [wrY_next HP.out.1]
              unfold oneP
              rw [if_neg (by rw [hx]; decide), ← HAA.out]
              exact Sv.next hD7 (ho7.under (Below.refl _ _).drew) ⟨D9, hv9, hD9, ho9⟩
            have hsz := HV.out.2.2.2.2.2
            have s0a : ∀ o, (V.alloc o).cell? ⟨k.ps, 0, none⟩ = some (.pointer (some ⟨k.pd, 0, none⟩)) := fun o => (HV.out.1.hp.alloc o).cell 0
            have y3a : ∀ o, (V.alloc o).cell? ⟨g, 3, none⟩ = some (.slice A1 L1 C1) := fun o => (HV.out.2.2.2.1.alloc o).cell 3
            go_region_law (first
              | (go_simp; go_at_call 91; refine (HAp.out _ (by first | exact (Below.refl _ _).drew | exact ((Below.refl _ _).alloc (Nat.le_refl _) _).drew | exact ((Below.refl _ _).alloc (Nat.le_refl _) _))).mono ?_; rintro e V6 ⟨ev, rfl, sv6, kp6, t0, z3, t0a, z3a, pk6⟩; try (have pA := pk6 (g + 1) (Nat.le_refl _) (by simp [hsz]); have bA := kp6 (g + 1) [.int .i64 0, .int .i64 0] 60 (Nat.le_refl _) (Blk.new' hsz rfl).drew; have m0 := bA.cell 0; have m1 := bA.cell 1; have m2 := bA.frozen 0; have m3 := bA.frozen 1; simp only [List.getElem?_cons_zero, List.getElem?_cons_succ] at m0 m1)))
            all_goals (
              first
              | (
                have P7 : Hid (g < g + 1 ∧ Sv D W k { st with q := incU st.q, la := st.la.set z (incU st.q), zs := appZ st.s (wrY st z l i).1 z p.d, S := (wrY st z l i).2 } (c + i) ((V6.setCell ⟨g + 1, 0, none⟩ (.int .i64 aa.1)).setCell ⟨g + 1, 1, none⟩ (.int .i64 aa.2)) ∧ Blk ((V6.setCell ⟨g + 1, 0, none⟩ (.int .i64 aa.1)).setCell ⟨g + 1, 1, none⟩ (.int .i64 aa.2)) g [.int .u32 p.t, .int .u64 p.b, .bool false, .slice A1 L1 C1] 42 ∧ Blk ((V6.setCell ⟨g + 1, 0, none⟩ (.int .i64 aa.1)).setCell ⟨g + 1, 1, none⟩ (.int .i64 aa.2)) (g + 1) [.int .i64 aa.1, .int .i64 aa.2] 60) := ⟨by omega, pA _ _, (sv6.2.set_other (a := ⟨g + 1, 0, none⟩) (by show g ≠ g + 1; omega) _).set_other (a := ⟨g + 1, 1, none⟩) (by show g ≠ g + 1; omega) _, (bA.set 0 _).set 1 _⟩
                generalize World.setCell (World.setCell V6 _ _) _ _ = V7 at P7 ⊢
                generalize g + 1 = ga at P7 ⊢)
              | (
                have P7 : Hid (g < V6.heap.size ∧ Sv D W k { st with q := incU st.q, la := st.la.set z (incU st.q), zs := appZ st.s (wrY st z l i).1 z p.d, S := (wrY st z l i).2 } (c + i) (V6.alloc (.cells #[.int .i64 aa.1, .int .i64 aa.2] 60)) ∧ Blk (V6.alloc (.cells #[.int .i64 aa.1, .int .i64 aa.2] 60)) g [.int .u32 p.t, .int .u64 p.b, .bool false, .slice A1 L1 C1] 42 ∧ Blk (V6.alloc (.cells #[.int .i64 aa.1, .int .i64 aa.2] 60)) V6.heap.size [.int .i64 aa.1, .int .i64 aa.2] 60) := ⟨sv6.2.lt, sv6.1.under ((Below.refl _ _).alloc (Nat.le_refl _) _), sv6.2.alloc _, Blk.new' rfl rfl⟩
                generalize World.alloc V6 _ = V7 at P7 ⊢
                generalize V6.heap.size = ga at P7 ⊢)
              have HC := HPut.out V7 ga P7.out.1 P7.out.2.1 P7.out.2.2.1 P7.out.2.2.2
              have y0 : V7.cell? ⟨g, 0, none⟩ = some (.int .u32 p.t) := P7.out.2.2.1.cell 0
              have y1 : V7.cell? ⟨g, 1, none⟩ = some (.int .u64 p.b) := P7.out.2.2.1.cell 1
              have a0 : V7.cell? ⟨ga, 0, none⟩ = some (.int .i64 aa.1) := P7.out.2.2.2.cell 0
              have a1 : V7.cell? ⟨ga, 1, none⟩ = some (.int .i64 aa.2) := P7.out.2.2.2.cell 1
              obtain ⟨D7, hv7, _, _⟩ := P7.out.2.1
              obtain ⟨_, _, s2, _⟩ := hv7.cells
              clear hv7 sv6 kp6 t0 z3 t0a z3a pk6 s0 y3 s0a y3a hsz HAp HPut
              try clear pA bA m0 m1 m2 m3
              go_wp2_with fail
              go_region_held3 (fun Y => Y.cell? ⟨k.ps, 2, none⟩ = some (.pointer (some ⟨k.pm, 0, none⟩)) ∧ Y.cell? ⟨g, 0, none⟩ = some (.int .u32 p.t) ∧ Y.cell? ⟨g, 1, none⟩ = some (.int .u64 p.b) ∧ Y.cell? ⟨ga, 0, none⟩ = some (.int .i64 aa.1) ∧ Y.cell? ⟨ga, 1, none⟩ = some (.int .i64 aa.2)) (first | exact ⟨s2, y0, y1, a0, a1⟩ | exact ⟨t2, z0, z1, b0, b1⟩)
                (first | (go_simp; go_at_call 95; refine HC.mono ?_; rintro e V9 ⟨⟨v9, rfl⟩, sv9, t2, z0, z1, b0, b1⟩))
              have H9 : Hid (Sv D W k { st with q := incU st.q, la := st.la.set z (incU st.q), zs := (wrY st z l (i + 1)).1, S := (wrY st z l (i + 1)).2 } (c + (i + 1)) V9) := sv9
              clear sv9 y0 y1 s2 t2 z0 z1 a0 a1 b0 b1 HC
              go_wp2
              go_roundw
              case rel => exact ⟨i + 1, by simp, by omega, H9.out⟩
              case measure => simp [intOf]; omega)
        · obtain rfl : i = j := by omega
          have HE : Hid (StV Di wr k { st with q := incU st.q, la := st.la.set z (incU st.q), zs := (wrY st z l i).1, S := (wrY st z l i).2 } (c + i) ∧ (∀ x, Di x → D x ∨ W.heap.size ≤ x) ∧ Out (StO D k) W wr ∧ l.length = i) := ⟨hvi, hDi, hoi, H.out.2.1.1⟩
          obtain ⟨R, hR⟩ : ∃ R, R = roomZ st.s (wrY st z l i).1 z := ⟨_, rfl⟩
          have HM : Hid (R = roomZ st.s (wrY st z l i).1 z ∧ writeM st z l = { st with q := incU st.q, la := st.la.set z (incU st.q), zs := (wrY st z l i).1, S := (wrY st z l i).2, L := fullL st.s (wrY st z l i).1 st.L z }) := ⟨hR, by unfold writeM; rw [H.out.2.1.1]; simp⟩
          clear hvi hDi hoi hR
          have HRo : Hid (Calls Tryz.prog 61 #[.pointer (some ⟨k.ps, 0, none⟩), .int .i64 (z : Nat)] wr fun e w' => e = .returned (.int .i64 R) ∧ StV Di w' k { st with q := incU st.q, la := st.la.set z (incU st.q), zs := (wrY st z l i).1, S := (wrY st z l i).2 } (c + i) ∧ Below wr.heap.size wr w') := by
            refine (sroom_of (z : Nat) HE.out.1).mono ?_
            rintro e w' ⟨rfl, hb⟩
            exact ⟨by rw [HM.out.1], HE.out.1.under hb, hb⟩
          by_cases hR0 : R = 0
          · subst hR0
            go_wp2_with (first
              | (go_at_call 61; refine HRo.out.mono ?_; rintro e V6 ⟨rfl, hv6, hb6⟩; obtain ⟨_, s1, _⟩ := hv6.cells; have H6 := (gFill_of k.pg k.gg st.s.r st.L z V6 hv6.sg).mono (fun e w' (hh : TurnGot V6 k.pg k.gg st.s.r st.L z 2 3 e w') => (⟨⟨_, hh.1⟩, Sv.next HE.out.2.1 (HE.out.2.2.1.under hb6) (hv6.sgstep hh.2.1 hh.2.2 (turnZ_length _ _ _ _))⟩ : (∃ v, e = .returned v) ∧ Sv D W k { st with q := incU st.q, la := st.la.set z (incU st.q), zs := (wrY st z l i).1, S := (wrY st z l i).2, L := turnZ st.L z 2 3 } (c + i) w')); clear hv6 hb6)
              | (go_at_call 118; refine H6.mono ?_; rintro e V7 ⟨⟨v7, rfl⟩, sv7⟩))
            first | go_end0 | refine bodyPost_ret (results_none rfl _ _ _) rfl ?_
            refine ⟨rfl, ?_⟩
            rw [HM.out.2]
            unfold fullL
            rw [if_pos HM.out.1.symm]
            exact sv7
          · have hR1 : (R == 0) = false := by simp [hR0]
            go_wp2_with (go_at_call 61; refine HRo.out.mono ?_; rintro e V6 ⟨rfl, hv6, hb6⟩)
            first | go_end0 | refine bodyPost_ret (results_none rfl _ _ _) rfl ?_
            refine ⟨rfl, ?_⟩
            rw [HM.out.2]
            unfold fullL
            rw [if_neg (by rw [← HM.out.1]; exact hR0)]
            exact ⟨Di, hv6, HE.out.2.1, HE.out.2.2.1.under hb6⟩
end
end Go.Proofs.YtfcbcpjcmihooaaGreat

/- What Put makes of what a store tells, and of its numbers. -/
namespace Go.Proofs.YtfcbcpjcmihooaaGreat
open Go.RowKit
set_option linter.unusedVariables false
set_option maxRecDepth 4000

structure Inv (st : St) : Prop where
  wf : Wf st.s st.zs
  plc : Plc st.zs st.S
  len : st.L.length = st.zs.length
theorem itP_right {s : Sh} {p : Pt} (hr : RightS s) (ho : p.x = true ∨ (p.d.length : Int) = s.b) : RightI (itP p) := by
  unfold itP
  split
  · exact .inr ⟨rfl, rfl, rfl⟩
  · rename_i hx
    have he : endsN p.d ≤ p.d.length := (ends_at p.d).1
    have hb := (pow_bounds (show s.b ∈ PowR from hr.2.2.2.2.1)).2
    have := ho.resolve_left hx
    exact .inl ⟨rfl, by show ((endsN p.d : Nat) : Int) ≤ 4096; omega⟩
theorem rec_size {s : Sh} {l : List Pt} {q : Int} (hr : RightS s) (ho : okP s l) (h0 : 0 < l.length) (h1 : (l.length : Int) ≤ roomI s.b) : ((encB q (l.map itP) s.b).length : Int) = s.b := by
  have hg : GoodR (l.map itP) s.b := ⟨by simpa using h0, by simpa using h1, fun x hx => by
    obtain ⟨p, hp, rfl⟩ := List.mem_map.1 hx
    exact itP_right hr (ho p hp)⟩
  have hb := hg.bounds
  simp only [List.length_map] at hb
  unfold encB
  rw [if_pos hg, enc_length (by simp only [List.length_map]; omega)]
  omega
theorem appZ_length (s : Sh) (zs : List Zn) (z : Int) (E : List Int) : (appZ s zs z E).length = zs.length := by
  unfold appZ; split
  · split
    · rfl
    · simp
  · rfl
theorem not_full {s : Sh} {zs : List Zn} {z : Int} (h : 1 ≤ roomZ s zs z) : ¬ appFull s zs z := by
  unfold appFull; unfold roomZ at h; omega
section
variable {st : St} {z : Nat} {l : List Pt}
theorem wr_mem (hi : Inv st) (hz : z < st.zs.length) (hl0 : 0 < l.length) (hl1 : (l.length : Int) ≤ roomI st.s.b) (ho : okP st.s l) (hf : ∀ p ∈ l, p.Fits) (hr : ((datN l : Nat) : Int) + 1 ≤ roomZ st.s st.zs z) :
    ∀ j, j ≤ l.length → Wf st.s (wrY st z l j).1 ∧ Plc (wrY st z l j).1 (wrY st z l j).2 ∧ memS (wrY st z l j).1 (wrY st z l j).2 = (l.take j).foldl updP (memT st) ∧ (atZ (wrY st z l j).1 z).1.length = (atZ st.zs z).1.length + 1 + datN (l.take j) ∧ (wrY st z l j).1.length = st.zs.length := by
  intro j
  induction j with
  | zero =>
    intro _
    have hsz := rec_size (q := incU st.q) hi.wf.right ho hl0 hl1
    have hok : appOk st.s st.zs z (encB (incU st.q) (l.map itP) st.s.b) := ⟨by omega, by omega, hsz⟩
    obtain ⟨_, _, _, hn⟩ := app_new hok (not_full (by omega))
    obtain ⟨p1, p2⟩ := hi.plc.app (s := st.s) z (encB (incU st.q) (l.map itP) st.s.b)
    rw [wrY_zero]
    refine ⟨hi.wf.app _ _, p1, p2, ?_, appZ_length _ _ _ _⟩
    show (atZ (recZ st z l) z).1.length = _
    unfold recZ
    rw [hn]
    simp [datN]
  | succ j ih =>
    intro hj
    obtain ⟨w1, w2, w3, w4, w5⟩ := ih (by omega)
    have hp : l[j]? = some l[j] := by simp
    have hm := List.mem_of_getElem? hp
    generalize l[j] = p at hp hm
    have ht : l.take (j + 1) = l.take j ++ [p] := take_snoc hp
    rw [wrY_next hp, ht, List.foldl_append]
    unfold oneP
    by_cases hx : p.x = true
    · rw [if_pos hx]
      obtain ⟨d1, d2⟩ := w2.drop hx
      refine ⟨w1, d1, by rw [d2, w3]; rfl, ?_, w5⟩
      rw [w4]
      simp [datN, List.filter_append, hx]
    · rw [if_neg hx]
      have hx' : p.x = false := by simpa using hx
      have hd : (datN (l.take j ++ [p]) : Int) ≤ datN l := by
        have : datN (l.take (j + 1)) ≤ datN l := by
          unfold datN
          have := ((List.take_sublist (j + 1) l).filter (fun p => !p.x)).length_le
          exact this
        rw [ht] at this
        omega
      have hd2 : datN (l.take j ++ [p]) = datN (l.take j) + 1 := by simp [datN, List.filter_append, hx']
      have hok : appOk st.s (wrY st z l j).1 z p.d := ⟨by omega, by rw [w5]; omega, (ho p hm).resolve_left hx⟩
      have hnf : ¬ appFull st.s (wrY st z l j).1 z := not_full (by unfold roomZ at hr ⊢; rw [w4]; omega)
      obtain ⟨_, _, _, hn⟩ := app_new hok hnf
      obtain ⟨d1, d2⟩ := w2.put hx' hok hnf ⟨⟨(hf p hm).1, (hf p hm).2.1⟩, appA_fits w1 (by rw [w5]; exact hz) _⟩
      refine ⟨w1.app _ _, d1, by rw [d2, w3]; rfl, ?_, by rw [appZ_length]; exact w5⟩
      show (atZ (appZ st.s (wrY st z l j).1 z p.d) z).1.length = _
      rw [hn, w4, hd2]
      omega
end
theorem roomI_nat {s : Sh} (hr : RightS s) : 2 ≤ roomI s.b ∧ ((roomI s.b).toNat : Int) = roomI s.b := by
  have hb : s.b ∈ PowR := hr.2.2.2.2.1
  have := pow_bounds hb
  have e : roomI s.b = (s.b - 19) / 19 := by unfold roomI; rw [if_pos hb]
  omega
end Go.Proofs.YtfcbcpjcmihooaaGreat

/- What one call of New of the store does. -/
namespace Go.Proofs.YtfcbcpjcmihooaaGreat
open Go.RowKit
set_option linter.unusedVariables false
set_option maxRecDepth 4000
theorem Tryz.zero_u64s : (Tryz.prog.info? 40).map (fun i => (i.zero, i.size, i.bytes)) = some (some (.int .u64 0), 1, 8) := by kernel_rfl
theorem made_u64 (n : Nat) (w : World) : Blk (w.alloc (.cells (madeCells #[.int .u64 0] n) 40)) w.heap.size (kInts .u64 (List.replicate n 0)) 40 := by
  refine Blk.new' rfl ?_
  apply Array.ext'
  rw [toList_madeCells_one]
  simp [kInts]
/-- The parts of a store that is being made. -/
def newSt (s : Sh) (zs : List Zn) (q : Int) (o : Int) : St := ⟨s, zs, newZ s.z.toNat, [], q, List.replicate s.z.toNat 0, o⟩
theorem stv_made {O : Nat → Prop} {W V : World} {p : Nat} {s : Sh} {zs : List Zn} {k : Bs} {q o : Int} (hd : Dv 134 O W p s zs) (hw : Wf s zs) (hb : Below W.heap.size W V) (hq : FitsU q) (hpd : k.pd = p) (hz : (s.z.toNat : Int) = s.z)
    (hs : SegP V k.pg k.gg s.r (newZ s.z.toNat)) (hm : LmP V k.pm k.b1 k.b2 [] 0) (hl : Blk V k.lb (kInts .u64 (List.replicate s.z.toNat 0)) 40) (hp : Blk V k.ps (stL k q s.z.toNat o) 96)
    (g1 : W.heap.size ≤ k.pg) (g2 : W.heap.size ≤ k.gg) (g3 : W.heap.size ≤ k.pm) (g4 : W.heap.size ≤ k.b1) (g5 : W.heap.size ≤ k.b2) (g6 : W.heap.size ≤ k.lb) (g7 : W.heap.size ≤ k.ps) :
    StV (fun x => O x ∧ x < W.heap.size) V k (newSt s zs q o) 0 := by
  have h6 := hw.right.1
  have hlz : (newZ s.z.toNat).length = s.z.toNat := newZ_length (by omega)
  have hzl : zs.length = s.z.toNat := by have := hw.len; omega
  refine ⟨?_, ?_, hs, hm, hl, hw, hq, ⟨by show (newZ s.z.toNat).length = zs.length; omega, by show (List.replicate s.z.toNat (0 : Int)).length = zs.length; simp; omega⟩, fun x hx => Nat.lt_of_lt_of_le hx.2 hb.size, ?_, ?_⟩
  · show Blk V k.ps (stL k q (List.replicate s.z.toNat (0 : Int)).length o) 96
    rw [List.length_replicate]; exact hp
  · rw [hpd]; exact kdv_under hd.there hb
  · rintro x (rfl | rfl | rfl | rfl | rfl | rfl | rfl) hx <;> (have := hx.2; omega)
  · have a1 : k.ps ≠ k.pg := blk_ne' hp hs.hp (by decide)
    have a2 : k.ps ≠ k.gg := blk_ne' hp hs.hg (by decide)
    have a3 : k.ps ≠ k.pm := blk_ne' hp hm.hp (by decide)
    have a4 : k.ps ≠ k.b1 := hm.m1.no_blk hp
    have a5 : k.ps ≠ k.b2 := hm.m2.no_blk hp
    have a6 : k.ps ≠ k.lb := blk_ne' hp hl (by decide)
    have b1 : k.pg ≠ k.gg := hs.ne
    have b2 : k.pg ≠ k.pm := blk_ne' hs.hp hm.hp (by decide)
    have b3 : k.pg ≠ k.b1 := hm.m1.no_blk hs.hp
    have b4 : k.pg ≠ k.b2 := hm.m2.no_blk hs.hp
    have b5 : k.pg ≠ k.lb := blk_ne' hs.hp hl (by decide)
    have c1 : k.gg ≠ k.pm := blk_ne' hs.hg hm.hp (by decide)
    have c2 : k.gg ≠ k.b1 := hm.m1.no_blk hs.hg
    have c3 : k.gg ≠ k.b2 := hm.m2.no_blk hs.hg
    have c4 : k.gg ≠ k.lb := blk_ne' hs.hg hl (by decide)
    have d1 : k.pm ≠ k.b1 := hm.m1.no_blk hm.hp
    have d2 : k.pm ≠ k.b2 := hm.m2.no_blk hm.hp
    have d3 : k.pm ≠ k.lb := blk_ne' hm.hp hl (by decide)
    have e1 : k.b1 ≠ k.b2 := hm.ne
    have e2 : k.b1 ≠ k.lb := fun e => hm.m1.no_blk hl e.symm
    have e3 : k.b2 ≠ k.lb := fun e => hm.m2.no_blk hl e.symm
    simp [a1, a2, a3, a4, a5, a6, b1, b2, b3, b4, b5, c1, c2, c3, c4, d1, d2, d3, e1, e2, e3]
set_option maxHeartbeats 4000000 in
theorem on_nil {O : Nat → Prop} {W : World} {p : Nat} {s : Sh} {zs : List Zn} (hd : Dv 134 O W p s zs) (hw : Wf s zs) :
    Calls Tryz.prog 44 #[.pointer (some ⟨p, 0, none⟩), .int .u64 0, .slice none 0 0, .slice none 0 0, .int .i64 0] W fun e w' => Below W.heap.size W w' ∧ ∃ k, e = .returned (.pointer (some ⟨k.ps, 0, none⟩)) ∧ StV (fun x => O x ∧ x < W.heap.size) w' k (newSt s zs 0 0) 0 ∧ ∀ x, k.has x → W.heap.size ≤ x := by
  obtain ⟨N, hN⟩ : ∃ N : Nat, s.z = N := ⟨s.z.toNat, by have := hw.right.1; omega⟩
  have hN1 : 6 ≤ N ∧ N ≤ 256 := by have := hw.right.1; have := hw.right.2.1; omega
  have H : Hid (Dv 134 O W p s zs ∧ Wf s zs ∧ s.z = (N : Int)) := ⟨hd, hw, hN⟩
  have hsh := dshape_of hd
  rw [hN] at hsh
  have HSh : Hid (Calls Tryz.prog 56 #[.pointer (some ⟨p, 0, none⟩)] W fun e w' => e = .returned (.agg #[.int .i64 (N : Int), .int .i64 s.zb, .int .i64 s.b, .int .i64 s.r]) ∧ Below W.heap.size W w') := hsh
  have hmk := run_make_row' (P := Tryz.prog) 94 40 (.int .u64 0) 8 Tryz.underlying94 Tryz.zero_u64s rfl .i64 .i64 N (by omega) (by omega)
  clear hd hw hN hsh
  go_enter Tryz.func44, Tryz.ntmps44
  go_wp2_with (go_at_call 56; refine HSh.out.mono ?_; rintro e W1 ⟨rfl, hb1⟩)
  have HV : Hid (Below W.heap.size W (W1.alloc (.cells #[.int .i64 (N : Int), .int .i64 s.zb, .int .i64 s.b, .int .i64 s.r] 23)) ∧ Blk (W1.alloc (.cells #[.int .i64 (N : Int), .int .i64 s.zb, .int .i64 s.b, .int .i64 s.r] 23)) W1.heap.size [.int .i64 (N : Int), .int .i64 s.zb, .int .i64 s.b, .int .i64 s.r] 23) := ⟨hb1.alloc hb1.size _, Blk.new' rfl rfl⟩
  clear hb1
  generalize World.alloc W1 _ = V at HV ⊢
  generalize W1.heap.size = ga at HV ⊢
  have x0 : V.cell? ⟨ga, 0, none⟩ = some (.int .i64 (N : Int)) := HV.out.2.cell 0
  have x1 : V.cell? ⟨ga, 1, none⟩ = some (.int .i64 s.zb) := HV.out.2.cell 1
  have x2 : V.cell? ⟨ga, 2, none⟩ = some (.int .i64 s.b) := HV.out.2.cell 2
  have x3 : V.cell? ⟨ga, 3, none⟩ = some (.int .i64 s.r) := HV.out.2.cell 3
  have k0 : ∀ o, (V.alloc o).cell? ⟨ga, 0, none⟩ = some (.int .i64 (N : Int)) := fun o => (HV.out.2.alloc o).cell 0
  have k1 : ∀ o, (V.alloc o).cell? ⟨ga, 1, none⟩ = some (.int .i64 s.zb) := fun o => (HV.out.2.alloc o).cell 1
  have k2 : ∀ o, (V.alloc o).cell? ⟨ga, 2, none⟩ = some (.int .i64 s.b) := fun o => (HV.out.2.alloc o).cell 2
  have k3 : ∀ o, (V.alloc o).cell? ⟨ga, 3, none⟩ = some (.int .i64 s.r) := fun o => (HV.out.2.alloc o).cell 3
  have HG : Hid (∀ Y, Below V.heap.size V Y → Calls Tryz.prog 93 #[.agg #[.int .i64 (N : Int), .int .i64 s.zb, .int .i64 s.b, .int .i64 s.r]] Y fun e Z => ∃ pg gg, e = .returned (.pointer (some ⟨pg, 0, none⟩)) ∧ (SegP Z pg gg s.r (newZ s.z.toNat) ∧ Y.heap.size ≤ pg ∧ Y.heap.size ≤ gg ∧ Below Y.heap.size Y Z) ∧ Z.cell? ⟨ga, 0, none⟩ = some (.int .i64 (N : Int)) ∧ (∀ o, (Z.alloc o).cell? ⟨ga, 0, none⟩ = some (.int .i64 (N : Int)))) := fun Y hY => by
    have := gNew_of s Y (by have := H.out.2.1.right.1; omega)
    rw [show shL s = [.int .i64 (N : Int), .int .i64 s.zb, .int .i64 s.b, .int .i64 s.r] by unfold shL; rw [H.out.2.2]] at this
    refine this.mono ?_
    rintro e Z (⟨hr, _⟩ | ⟨_, pg, gg, rfl, h1, h2, h3, h4⟩)
    · exact (hr H.out.2.1.right).elim
    · have bg := HV.out.2.below (hY.trans (h4.mono hY.size)) HV.out.2.lt
      exact ⟨pg, gg, rfl, ⟨h1, h2, h3, h4⟩, bg.cell 0, fun o => (bg.alloc o).cell 0⟩
  have HM : Hid (∀ Y, Calls Tryz.prog 94 #[] Y fun e Z => ∃ pm b1 b2, e = .returned (.pointer (some ⟨pm, 0, none⟩)) ∧ (LmP Z pm b1 b2 [] 0 ∧ Below Y.heap.size Y Z ∧ Y.heap.size ≤ pm ∧ Y.heap.size ≤ b1 ∧ Y.heap.size ≤ b2) ∧ ∀ v, Y.cell? ⟨ga, 0, none⟩ = some v → Z.cell? ⟨ga, 0, none⟩ = some v ∧ (∀ o, (Z.alloc o).cell? ⟨ga, 0, none⟩ = some v)) := fun Y => by
    refine (mNew_of Y).mono ?_
    rintro e Z ⟨pm, b1, b2, rfl, h1, h2, h3, h4, h5⟩
    refine ⟨pm, b1, b2, rfl, ⟨h1, h2, h3, h4, h5⟩, fun v hv => ?_⟩
    have e1 : Z.cell? ⟨ga, 0, none⟩ = some v := (h2.cell (old_block hv)).trans hv
    exact ⟨e1, fun o => (((Below.refl _ _).alloc (Nat.le_refl _) o).cell (old_block e1)).trans e1⟩
  go_region_law (first
    | (go_simp; go_at_call 93; refine (HG.out _ (by first | exact (Below.refl _ _).drew | exact ((Below.refl _ _).alloc (Nat.le_refl _) _).drew)).mono ?_; rintro e V2 ⟨pg, gg, rfl, sg2, y0, y0a⟩)
    | (go_simp; go_at_call 94; refine (HM.out _).mono ?_; rintro e V3 ⟨pm, b1, b2, rfl, lm3, kk⟩; have z0 : V3.cell? ⟨ga, 0, none⟩ = some (.int .i64 (N : Int)) := (kk _ (by first | exact y0 | exact y0a _)).1; have z0a : ∀ o, (V3.alloc o).cell? ⟨ga, 0, none⟩ = some (.int .i64 (N : Int)) := (kk _ (by first | exact y0 | exact y0a _)).2; clear kk))
  all_goals (
    have hbV : Below W.heap.size W V := HV.out.1
    have hz : (s.z.toNat : Int) = s.z := by rw [H.out.2.2]; simp
    have hzN : s.z.toNat = N := by rw [H.out.2.2]; simp
    have hsV := hbV.size
    first
    | (
      have e2 : Below V.heap.size V V2 := (Below.refl _ _).drew.trans sg2.2.2.2
      have g1 : V.heap.size ≤ pg := sg2.2.1
      have g2 : V.heap.size ≤ gg := sg2.2.2.1
      have g3 := lm3.2.2.1
      have g4 := lm3.2.2.2.1
      have g5 := lm3.2.2.2.2
      have e3 : Below V.heap.size V V3 := e2.trans (lm3.2.1.mono e2.size)
      have q2 := e2.size
      have q3 := lm3.2.1.size
      have PK : Hid (StV (fun x => O x ∧ x < W.heap.size) ((V3.alloc (.cells (madeCells #[.int .u64 0] N) 40)).alloc (.cells #[.pointer (some ⟨p, 0, none⟩), .pointer (some ⟨pg, 0, none⟩), .pointer (some ⟨pm, 0, none⟩), .int .u64 0, .slice (some ⟨V3.heap.size, 0, none⟩) N N, .int .i64 0] 96)) ⟨V3.heap.size + 1, p, pg, gg, pm, b1, b2, V3.heap.size⟩ (newSt s zs 0 0) 0 ∧ Below W.heap.size W ((V3.alloc (.cells (madeCells #[.int .u64 0] N) 40)).alloc (.cells #[.pointer (some ⟨p, 0, none⟩), .pointer (some ⟨pg, 0, none⟩), .pointer (some ⟨pm, 0, none⟩), .int .u64 0, .slice (some ⟨V3.heap.size, 0, none⟩) N N, .int .i64 0] 96)) ∧ ∀ x, Bs.has ⟨V3.heap.size + 1, p, pg, gg, pm, b1, b2, V3.heap.size⟩ x → W.heap.size ≤ x) := by
        have hb : Below W.heap.size W ((V3.alloc (.cells (madeCells #[.int .u64 0] N) 40)).alloc (.cells #[.pointer (some ⟨p, 0, none⟩), .pointer (some ⟨pg, 0, none⟩), .pointer (some ⟨pm, 0, none⟩), .int .u64 0, .slice (some ⟨V3.heap.size, 0, none⟩) N N, .int .i64 0] 96)) := ((hbV.trans (e3.mono hsV)).alloc (by omega) _).alloc (by simp; omega) _
        refine ⟨stv_made (k := ⟨V3.heap.size + 1, p, pg, gg, pm, b1, b2, V3.heap.size⟩) H.out.1 H.out.2.1 hb (by unfold FitsU; omega) rfl hz ?_ ?_ ?_ ?_ (by show W.heap.size ≤ pg; omega) (by show W.heap.size ≤ gg; omega) (by show W.heap.size ≤ pm; omega) (by show W.heap.size ≤ b1; omega) (by show W.heap.size ≤ b2; omega) (by show W.heap.size ≤ V3.heap.size; omega) (by show W.heap.size ≤ V3.heap.size + 1; omega), hb, ?_⟩
        · exact ((sg2.1.under lm3.2.1).under ((Below.refl _ _).alloc (Nat.le_refl _) _)).under ((Below.refl _ _).alloc (Nat.le_refl _) _)
        · exact (lm3.1.alloc _).alloc _
        · rw [hzN]; exact (made_u64 N V3).alloc _
        · rw [hzN]; exact Blk.new' (by simp) rfl
        · rintro x (rfl | rfl | rfl | rfl | rfl | rfl | rfl) <;> (try simp only) <;> omega
      try clear g1 g2 g3 g4 g5
      clear e2 e3 q2 q3 hbV hz hzN hsV sg2 lm3 y0 y0a z0 z0a k0 k1 k2 k3 x0 x1 x2 x3
      generalize World.alloc (World.alloc V3 _) _ = V9 at PK ⊢
      generalize V3.heap.size + 1 = ps at PK ⊢
      generalize V3.heap.size = lb at PK ⊢)
    | (
      have e2 : Below V.heap.size V V2 := (Below.refl _ _).drew.trans sg2.2.2.2
      have g1 : V.heap.size ≤ pg := sg2.2.1
      have g2 : V.heap.size ≤ gg := sg2.2.2.1
      have g3 := lm3.2.2.1
      have g4 := lm3.2.2.2.1
      have g5 := lm3.2.2.2.2
      have lmb : Below (V2.heap.size + 1) (V2.alloc (.cells (madeCells #[.int .u64 0] N) 40)) V3 := by have := lm3.2.1; simpa using this
      have e3 : Below V2.heap.size V2 V3 := ((Below.refl _ _).alloc (Nat.le_refl _) _).trans (lmb.mono (by omega))
      have q2 := e2.size
      have q3 := e3.size
      have q4 : V2.heap.size + 1 ≤ V3.heap.size := by have := lmb.size; simpa using this
      have l3 : V2.heap.size + 1 ≤ pm ∧ V2.heap.size + 1 ≤ b1 ∧ V2.heap.size + 1 ≤ b2 := by have := lm3.2.2; simpa using this
      have PK : Hid (StV (fun x => O x ∧ x < W.heap.size) (V3.alloc (.cells #[.pointer (some ⟨p, 0, none⟩), .pointer (some ⟨pg, 0, none⟩), .pointer (some ⟨pm, 0, none⟩), .int .u64 0, .slice (some ⟨V2.heap.size, 0, none⟩) N N, .int .i64 0] 96)) ⟨V3.heap.size, p, pg, gg, pm, b1, b2, V2.heap.size⟩ (newSt s zs 0 0) 0 ∧ Below W.heap.size W (V3.alloc (.cells #[.pointer (some ⟨p, 0, none⟩), .pointer (some ⟨pg, 0, none⟩), .pointer (some ⟨pm, 0, none⟩), .int .u64 0, .slice (some ⟨V2.heap.size, 0, none⟩) N N, .int .i64 0] 96)) ∧ ∀ x, Bs.has ⟨V3.heap.size, p, pg, gg, pm, b1, b2, V2.heap.size⟩ x → W.heap.size ≤ x) := by
        have hb : Below W.heap.size W (V3.alloc (.cells #[.pointer (some ⟨p, 0, none⟩), .pointer (some ⟨pg, 0, none⟩), .pointer (some ⟨pm, 0, none⟩), .int .u64 0, .slice (some ⟨V2.heap.size, 0, none⟩) N N, .int .i64 0] 96)) := ((hbV.trans (e2.mono hsV)).trans (e3.mono (by omega))).alloc (by omega) _
        refine ⟨stv_made (k := ⟨V3.heap.size, p, pg, gg, pm, b1, b2, V2.heap.size⟩) H.out.1 H.out.2.1 hb (by unfold FitsU; omega) rfl hz ?_ ?_ ?_ ?_ (by show W.heap.size ≤ pg; omega) (by show W.heap.size ≤ gg; omega) (by show W.heap.size ≤ pm; omega) (by show W.heap.size ≤ b1; omega) (by show W.heap.size ≤ b2; omega) (by show W.heap.size ≤ V2.heap.size; omega) (by show W.heap.size ≤ V3.heap.size; omega), hb, ?_⟩
        · exact (sg2.1.under e3).under ((Below.refl _ _).alloc (Nat.le_refl _) _)
        · exact lm3.1.alloc _
        · rw [hzN]; exact ((made_u64 N V2).below lmb (by omega)).alloc _
        · rw [hzN]; exact Blk.new' rfl rfl
        · rintro x (rfl | rfl | rfl | rfl | rfl | rfl | rfl) <;> (try simp only) <;> omega
      try clear g1 g2 g3 g4 g5
      clear e2 e3 q2 q3 q4 l3 lmb hbV hz hzN hsV sg2 lm3 y0 y0a z0 z0a k0 k1 k2 k3 x0 x1 x2 x3
      generalize World.alloc V3 _ = V9 at PK ⊢
      generalize V3.heap.size = ps at PK ⊢
      generalize V2.heap.size = lb at PK ⊢)
    | (
      have sgb : Below (V.heap.size + 1) (V.alloc (.cells (madeCells #[.int .u64 0] N) 40)) V2 := by have := (Below.refl _ _).drew.trans sg2.2.2.2; simpa using this
      have e2 : Below V.heap.size V V2 := ((Below.refl _ _).alloc (Nat.le_refl _) _).trans (sgb.mono (by omega))
      have e3 := lm3.2.1
      have g3 := lm3.2.2.1
      have g4 := lm3.2.2.2.1
      have g5 := lm3.2.2.2.2
      have q2 := e2.size
      have q3 := e3.size
      have q4 : V.heap.size + 1 ≤ V2.heap.size := by have := sgb.size; simpa using this
      have l2 : V.heap.size + 1 ≤ pg ∧ V.heap.size + 1 ≤ gg := by have h1 := sg2.2.1; have h2 := sg2.2.2.1; simpa using (And.intro h1 h2)
      have PK : Hid (StV (fun x => O x ∧ x < W.heap.size) (V3.alloc (.cells #[.pointer (some ⟨p, 0, none⟩), .pointer (some ⟨pg, 0, none⟩), .pointer (some ⟨pm, 0, none⟩), .int .u64 0, .slice (some ⟨V.heap.size, 0, none⟩) N N, .int .i64 0] 96)) ⟨V3.heap.size, p, pg, gg, pm, b1, b2, V.heap.size⟩ (newSt s zs 0 0) 0 ∧ Below W.heap.size W (V3.alloc (.cells #[.pointer (some ⟨p, 0, none⟩), .pointer (some ⟨pg, 0, none⟩), .pointer (some ⟨pm, 0, none⟩), .int .u64 0, .slice (some ⟨V.heap.size, 0, none⟩) N N, .int .i64 0] 96)) ∧ ∀ x, Bs.has ⟨V3.heap.size, p, pg, gg, pm, b1, b2, V.heap.size⟩ x → W.heap.size ≤ x) := by
        have hb : Below W.heap.size W (V3.alloc (.cells #[.pointer (some ⟨p, 0, none⟩), .pointer (some ⟨pg, 0, none⟩), .pointer (some ⟨pm, 0, none⟩), .int .u64 0, .slice (some ⟨V.heap.size, 0, none⟩) N N, .int .i64 0] 96)) := ((hbV.trans (e2.mono hsV)).trans (e3.mono (by omega))).alloc (by omega) _
        refine ⟨stv_made (k := ⟨V3.heap.size, p, pg, gg, pm, b1, b2, V.heap.size⟩) H.out.1 H.out.2.1 hb (by unfold FitsU; omega) rfl hz ?_ ?_ ?_ ?_ (by show W.heap.size ≤ pg; omega) (by show W.heap.size ≤ gg; omega) (by show W.heap.size ≤ pm; omega) (by show W.heap.size ≤ b1; omega) (by show W.heap.size ≤ b2; omega) (by show W.heap.size ≤ V.heap.size; omega) (by show W.heap.size ≤ V3.heap.size; omega), hb, ?_⟩
        · exact (sg2.1.under e3).under ((Below.refl _ _).alloc (Nat.le_refl _) _)
        · exact lm3.1.alloc _
        · rw [hzN]; exact (((made_u64 N V).below sgb (by omega)).below e3 (by omega)).alloc _
        · rw [hzN]; exact Blk.new' rfl rfl
        · rintro x (rfl | rfl | rfl | rfl | rfl | rfl | rfl) <;> (try simp only) <;> omega
      clear g3 g4 g5
      clear e2 e3 q2 q3 q4 l2 sgb hbV hz hzN hsV sg2 lm3 y0 y0a z0 z0a k0 k1 k2 k3 x0 x1 x2 x3
      generalize World.alloc V3 _ = V9 at PK ⊢
      generalize V3.heap.size = ps at PK ⊢
      generalize V.heap.size = lb at PK ⊢)
    go_wp2
    go_loopw [32] (fun x wr => x = .int .i64 0 ∧ wr = V9) (fun _ _ => 0)
    case atStart => exact ⟨rfl, rfl⟩
    case round =>
      obtain ⟨rfl, rfl⟩ := hrel
      go_wp2
      obtain ⟨V8, rfl⟩ : ∃ V8 : World, V8 = wr := ⟨_, rfl⟩
      go_loopw [45] (fun x wr => x = .int .i64 0 ∧ wr = V8) (fun _ _ => 0)
      case atStart => exact ⟨rfl, rfl⟩
      case round =>
        obtain ⟨rfl, rfl⟩ := hrel
        go_wp2
        go_ret
        exact ⟨PK.out.2.1, _, rfl, PK.out.1, PK.out.2.2⟩)
theorem swf_svZ {s : Sh} {zs : List Zn} (h : Wf s zs) (slot seq : Int) (ps : List Pl) : Wf s (svZ s zs slot seq ps) := by
  unfold svZ
  split
  · rename_i he
    unfold svE at he
    split at he
    · have := wf_put h slot.toNat (ckL s seq ps).length (ckL_size (seq := seq) he) (by rw [ckL_length]; exact (ckE_zero.1 he).2)
      rw [List.take_of_length_le (Nat.le_refl _)] at this
      exact this.flush
    · cases he
  · exact h
noncomputable def st0 (s : Sh) : St := newSt s (svZ s (emptyZ s.z.toNat) 0 0 []) 0 0
set_option maxHeartbeats 2000000 in
theorem snew_of (s : Sh) (W : World) (hz : -9223372036854775808 ≤ s.z) : Calls Tryz.prog 11 #[.agg (shL s).toArray] W fun e w' => Below W.heap.size W w' ∧ ((¬ RightS s ∧ e = .returned (.pointer none)) ∨ (RightS s ∧ ∃ D k, e = .returned (.pointer (some ⟨k.ps, 0, none⟩)) ∧ StV D w' k (st0 s) 0 ∧ ∀ x, StO D k x → W.heap.size ≤ x)) := by
  obtain ⟨q, hq⟩ : ∃ q, q = W.heap.size := ⟨_, rfl⟩
  have b0 : Below W.heap.size W (W.alloc (.cells (shL s).toArray 23)) := (Below.refl _ _).alloc (Nat.le_refl _) _
  have hN := new_of s (W.alloc (.cells (shL s).toArray 23)) hz
  have c0 : (W.alloc (.cells (shL s).toArray 23)).cell? ⟨W.heap.size, 0, none⟩ = some (.int .i64 s.z) := (Blk.new' (L := shL s) rfl rfl).cell 0
  have c1 : (W.alloc (.cells (shL s).toArray 23)).cell? ⟨W.heap.size, 1, none⟩ = some (.int .i64 s.zb) := (Blk.new' (L := shL s) rfl rfl).cell 1
  have c2 : (W.alloc (.cells (shL s).toArray 23)).cell? ⟨W.heap.size, 2, none⟩ = some (.int .i64 s.b) := (Blk.new' (L := shL s) rfl rfl).cell 2
  have c3 : (W.alloc (.cells (shL s).toArray 23)).cell? ⟨W.heap.size, 3, none⟩ = some (.int .i64 s.r) := (Blk.new' (L := shL s) rfl rfl).cell 3
  have HB : Hid (Below W.heap.size W (W.alloc (.cells (shL s).toArray 23))) := b0
  unfold shL at hN c0 c1 c2 c3 HB ⊢
  by_cases hr : RightS s
  · have HN : Hid (Calls Tryz.prog 42 #[.agg #[.int .i64 s.z, .int .i64 s.zb, .int .i64 s.b, .int .i64 s.r]] (W.alloc (.cells #[.int .i64 s.z, .int .i64 s.zb, .int .i64 s.b, .int .i64 s.r] 23)) fun e w1 => ∃ p, e = .returned (.pointer (some ⟨p, 0, none⟩)) ∧ Calls Tryz.prog 43 #[.pointer (some ⟨p, 0, none⟩), .int .i64 0, .agg #[.int .u64 0, .slice none 0 0]] w1 fun e w2 => (∃ v, e = .returned v) ∧ Calls Tryz.prog 44 #[.pointer (some ⟨p, 0, none⟩), .int .u64 0, .slice none 0 0, .slice none 0 0, .int .i64 0] w2 fun e w' => ∃ D k, e = .returned (.pointer (some ⟨k.ps, 0, none⟩)) ∧ Below W.heap.size W w' ∧ StV D w' k (st0 s) 0 ∧ ∀ x, StO D k x → W.heap.size ≤ x) := by
      refine hN.mono ?_
      rintro e w1 ⟨hb, ⟨hn, _⟩ | ⟨_, p, rfl, hd⟩⟩
      · exact (hn hr).elim
      · refine ⟨p, rfl, (ksave_of 0 0 none 0 0 [] hd (empty_wf hr) (by unfold FitsU; omega) (kin_none _) (Nat.le_refl _)).mono ?_⟩
        rintro e w2 ⟨rfl, O2, hd2, hO2, ho2⟩
        refine ⟨⟨_, rfl⟩, (on_nil hd2 (swf_svZ (empty_wf hr) 0 0 [])).mono ?_⟩
        have hb' : Below W.heap.size W w1 := HB.out.trans (hb.mono HB.out.size)
        have hW2 : W.heap.size ≤ w2.heap.size := Nat.le_trans hb'.size ho2.size
        have hge : ∀ x, O2 x → W.heap.size ≤ x := fun x hx => by
          rcases hO2 x hx with h | h
          · have : (W.alloc (.cells #[.int .i64 s.z, .int .i64 s.zb, .int .i64 s.b, .int .i64 s.r] 23)).heap.size = W.heap.size + 1 := by simp
            rw [this] at h; omega
          · have := hb'.size; omega
        have hb2 : Below W.heap.size W w2 := hb'.trans (ho2.below hb'.size (fun j hj => by
          have : (W.alloc (.cells #[.int .i64 s.z, .int .i64 s.zb, .int .i64 s.b, .int .i64 s.r] 23)).heap.size = W.heap.size + 1 := by simp
          rw [this] at hj; omega))
        rintro e w' ⟨hb3, k, rfl, hv, hk⟩
        refine ⟨_, k, rfl, hb2.trans (hb3.mono hW2), hv, fun x hx => ?_⟩
        rcases hx with hx | hx
        · exact hge x hx.1
        · have := hk x hx; omega
    clear hN b0
    go_enter Tryz.func11, Tryz.ntmps11
    go_wp2_with (first
      | (go_at_call 42; refine HN.out.mono ?_; rintro e w1 ⟨p, rfl, h1⟩)
      | (go_at_call 43; refine h1.mono ?_; rintro e w2 ⟨⟨v2, rfl⟩, h2⟩)
      | (go_at_call 44; refine h2.mono ?_; rintro e w3 ⟨D3, k3, rfl, h3⟩))
    go_ret
    exact ⟨h3.1, .inr ⟨hr, D3, k3, rfl, h3.2⟩⟩
  · have HN : Hid (Calls Tryz.prog 42 #[.agg #[.int .i64 s.z, .int .i64 s.zb, .int .i64 s.b, .int .i64 s.r]] (W.alloc (.cells #[.int .i64 s.z, .int .i64 s.zb, .int .i64 s.b, .int .i64 s.r] 23)) fun e w1 => e = .returned (.pointer none) ∧ Below W.heap.size W w1) := by
      refine hN.mono ?_
      rintro e w1 ⟨hb, ⟨_, rfl⟩ | ⟨hh, _⟩⟩
      · exact ⟨rfl, HB.out.trans (hb.mono HB.out.size)⟩
      · exact (hr hh).elim
    clear hN b0
    go_enter Tryz.func11, Tryz.ntmps11
    go_wp2_with (go_at_call 42; refine HN.out.mono ?_; rintro e w1 ⟨rfl, hb1⟩)
    go_ret
    exact ⟨hb1, .inl ⟨hr, rfl⟩⟩
end Go.Proofs.YtfcbcpjcmihooaaGreat
