/- P36 -/
import Derived.Test.YtcdnjeiamihhbabGreatP35
set_option linter.unusedVariables false
set_option maxRecDepth 4000
namespace Go.Proofs.YtcdnjeiamihhbabGreat
open Go.RowKit
section
def ptV (p : Pt) (v : Value) : Value := .agg #[.int .u32 p.t, .int .u64 p.b, .bool p.x, v]
theorem need_of (p : Pt) (v : Value) (w : World) : Calls Tryz.prog 30 #[ptV p v] w fun e w' => e = .returned (.int .i64 (needP p)) ∧ Below w.heap.size w w' := by
 obtain ⟨t, b, x, d⟩ := p
 have hb : Below w.heap.size w (w.alloc (.cells #[.int .u32 t, .int .u64 b, .bool x, v] 61)) := (Below.refl _ _).alloc (Nat.le_refl _) _
 unfold ptV
 cases x
 all_goals (
  go_enter Tryz.func30, Tryz.ntmps30
  go_wp2
  go_ret
  exact ⟨rfl, hb⟩)
section
variable {D : Nat → Prop} {W : World} {k : Bs} {st : St} {c : Nat}
theorem dshape_of {T : Nat → Prop} {p : Nat} {s : Sh} {zs : List Zn} (hd : Dv 105 T W p s zs) :
  Calls Tryz.prog 28 #[.pointer (some ⟨p, 0, none⟩)] W fun e w' => e = .returned (.agg #[.int .i64 s.z, .int .i64 s.zb, .int .i64 s.b, .int .i64 s.r]) ∧ Below W.heap.size W w' := shape_of hd
theorem Tryz.shape_zb (z zb b r : Value) : ∀ w : World, (Instr.field 23 (.agg #[z, zb, b, r]) 1).run Tryz.prog w = .ok zb w := fun _ => by kernel_rfl
theorem Tryz.shape_b (z zb b r : Value) : ∀ w : World, (Instr.field 23 (.agg #[z, zb, b, r]) 2).run Tryz.prog w = .ok b w := fun _ => by kernel_rfl
theorem own_first {w : World} {B : Nat} {e : TypeId} {A : Option Addr} {n m cc : Nat} {v : Value} {vs : List Value} (h : w.ownsRow B e 1 (.slice A n cc) m (v :: vs)) : ∃ g, A = some ⟨g, 0, none⟩ ∧ w.cell? ⟨g, 0, none⟩ = some v := by
 rcases h.2 with ⟨hv, hn⟩ | ⟨g, cap, cur, hv, r⟩
 ·have := h.1; simp [hn] at this
 ·simp only [Value.slice.injEq] at hv
  obtain ⟨rfl, _, _⟩ := hv
  have := h.cells (g := g) rfl 0 v (by simp)
  exact ⟨g, rfl, by simpa [Addr.add] using this⟩
theorem Wf.at_le {s : Sh} {zs : List Zn} (h : Wf s zs) (a : Int) : ((atZ zs a).1.length : Int) ≤ s.zb := by
 have h8 := h.right.2.2.1
 unfold atZ
 split
 ·rw [List.getD_eq_getElem?_getD]
  cases hz : zs[a.toNat]? with
  | none => simp; omega
  | some z => exact (h.zone z (List.mem_of_getElem? hz)).1
 ·simp; omega
set_option maxHeartbeats 1000000 in
theorem sroom_of (a : Int) (h : StV D W k st c) : Calls Tryz.prog 33 #[.pointer (some ⟨k.ps, 0, none⟩), .int .i64 a] W fun e w' => e = .returned (.int .i64 (roomZ st.s st.zs a)) ∧ Below W.heap.size W w' := by
 obtain ⟨c0, _⟩ := h.cells
 obtain ⟨N, hN⟩ : ∃ N, N = (atZ st.zs a).1.length := ⟨_, rfl⟩
 have hN1 : (N : Int) ≤ st.s.zb := by rw [hN]; exact h.wf.at_le a
 have hzb := h.wf.right.2.2.2.1
 have hw : IntKind.i64.wrap (st.s.zb - (N : Int)) = st.s.zb - (N : Int) := by rw [IntKind.wrap_i64]; omega
 have H : Hid (StV D W k st c ∧ N = (atZ st.zs a).1.length) := ⟨h, hN⟩
 have HA : Hid (Calls Tryz.prog 12 #[.pointer (some ⟨k.pd, 0, none⟩), .int .i64 a] W fun e w' => e = .returned (.tuple #[.int .i64 (N : Nat), .int .i64 (atZ st.zs a).2]) ∧ StV D w' k st c ∧ Below W.heap.size W w') := by
  refine (at_of a h.dv).mono ?_
  rintro e w' ⟨rfl, hb⟩
  exact ⟨by rw [hN], h.under hb, hb⟩
 have hfd := Tryz.shape_zb (.int .i64 st.s.z) (.int .i64 st.s.zb) (.int .i64 st.s.b) (.int .i64 st.s.r)
 clear h hN hN1 hzb
 go_enter Tryz.func33, Tryz.ntmps33
 go_wp2_with (first
  | (go_at_call 12; refine HA.out.mono ?_; rintro e w2 ⟨rfl, hs2, hb2⟩; obtain ⟨d0, _⟩ := hs2.cells; have hsh := dshape_of hs2.dv; have H2 : Hid (Below W.heap.size W w2) := hb2; clear hs2 hb2)
  | (go_at_call 28; refine hsh.mono ?_; rintro e w3 ⟨rfl, hb3⟩))
 go_ret
 refine ⟨?_, H2.out.trans (hb3.mono H2.out.size)⟩
 unfold roomZ
 rw [← H.out.2]
 all_goals first | rfl | simp [hw]
set_option maxHeartbeats 1000000 in
theorem current_of (h : StV D W k st c) : Calls Tryz.prog 68 #[.pointer (some ⟨k.ps, 0, none⟩)] W fun e w' => e = .returned (.tuple #[.int .i64 (curA st.L), .bool (curB st.L)]) ∧ Sv D W k { st with L := curL st.L } c w' := by
 obtain ⟨_, c1, _⟩ := h.cells
 have hg := gList_of k.pg k.gg st.s.r st.L 2 W h.sg
 have H : Hid (StV D W k st c) := h
 cases hl : listZ st.L 2 with
 | cons z r =>
  have HA : Hid (curA st.L = z ∧ curB st.L = true ∧ curL st.L = st.L) := by unfold curA curB curL; rw [hl]; exact ⟨rfl, rfl, rfl⟩
  rw [hl] at hg
  have HG : Hid (Calls Tryz.prog 106 #[.pointer (some ⟨k.pg, 0, none⟩), .int .u8 2] W fun e w' => ∃ g cc, e = .returned (.slice (some ⟨g, 0, none⟩) (r.length + 1) cc) ∧ w'.cell? ⟨g, 0, none⟩ = some (.int .i64 z) ∧ Below W.heap.size W w') := by
   refine hg.mono ?_
   rintro e w' ⟨A, cc, rfl, ow, bl⟩
   obtain ⟨g, rfl, hc⟩ := own_first (v := .int .i64 z) (vs := kInts .i64 r) ow
   exact ⟨g, cc, rfl, hc, bl⟩
  clear h hg hl
  go_enter Tryz.func68, Tryz.ntmps68
  go_wp2_with (go_at_call 106; refine HG.out.mono ?_; rintro e w2 ⟨g, cc, rfl, x0, bl⟩)
  go_ret2
  rw [HA.out.1, HA.out.2.1, HA.out.2.2]
  exact ⟨rfl, (Sv.start H.out).under bl⟩
 | nil =>
  have HA : Hid (curA st.L = takeI st.L ∧ curB st.L = takeB st.L ∧ curL st.L = takeZ st.L) := by unfold curA curB curL; rw [hl]; exact ⟨rfl, rfl, rfl⟩
  rw [hl] at hg
  have HG : Hid (Calls Tryz.prog 106 #[.pointer (some ⟨k.pg, 0, none⟩), .int .u8 2] W fun e w' => ∃ A cc, e = .returned (.slice A 0 cc) ∧ w'.cell? ⟨k.ps, 1, none⟩ = some (.pointer (some ⟨k.pg, 0, none⟩)) ∧ Calls Tryz.prog 107 #[.pointer (some ⟨k.pg, 0, none⟩)] w' fun e w'' => e = .returned (.tuple #[.int .i64 (takeI st.L), .bool (takeB st.L)]) ∧ Sv D W k { st with L := takeZ st.L } c w'') := by
   refine hg.mono ?_
   rintro e w' ⟨A, cc, rfl, ow, bl⟩
   have hs := h.under bl
   refine ⟨A, cc, rfl, hs.cells.2.1, (gTake_of k.pg k.gg st.s.r st.L w' hs.sg).mono ?_⟩
   rintro e w'' ⟨rfl, h1, h2⟩
   exact ⟨rfl, (hs.sgstep h1 h2 (takeZ_length _)).from bl⟩
  clear h hg hl
  go_enter Tryz.func68, Tryz.ntmps68
  go_wp2_with (first
   | (go_at_call 106; refine HG.out.mono ?_; rintro e w2 ⟨A, cc, rfl, x1, ht⟩)
   | (go_at_call 107; refine ht.mono ?_; rintro e w3 ⟨rfl, sv⟩))
  go_ret2
  rw [HA.out.1, HA.out.2.1, HA.out.2.2]
  exact ⟨rfl, sv⟩
end
end
section
section
variable {D : Nat → Prop} {W : World} {k : Bs} {st : St} {c : Nat}
def segOf (w : World) (g : Nat) : List Int := match w.heap[g]? with | some (.cells cs _ _) => cs.toList.map intOf | _ => []
theorem seg_of {w : World} {p g : Nat} {r : Int} {L : List Int} (h : SegP w p g r L) : segOf w g = L := by
 have e : w.heap[g]? = some (.cells (u8s L).toArray 5 (0, 0)) := h.hg
 unfold segOf
 rw [e]
 simp [u8s, List.map_map, Function.comp_def, intOf]
set_option maxHeartbeats 2000000 in
theorem open_of (n : Int) (h : StV D W k st c) : Calls Tryz.prog 29 #[.pointer (some ⟨k.ps, 0, none⟩), .int .i64 n] W fun e w' => e = .returned (.tuple #[.int .i64 (openZ st.s st.zs n st.L).1, .bool (openZ st.s st.zs n st.L).2.1]) ∧ Sv D W k { st with L := (openZ st.s st.zs n st.L).2.2 } c w' := by
 have H : Hid (StV D W k st c) := h
 clear h
 go_enter Tryz.func29, Tryz.ntmps29
 go_wp2
 go_loopw [6] (fun _ wr => ∃ L', Sv D W k { st with L := L' } c wr ∧ openZ st.s st.zs n L' = openZ st.s st.zs n st.L) (fun _ wr => muZ (segOf wr k.gg))
 case atStart => exact ⟨st.L, Sv.start H.out, rfl⟩
 case round =>
  obtain ⟨L', ⟨D', hv, hD, ho⟩, he⟩ := hrel
  have hm : muZ (segOf wr k.gg) = muZ L' := by rw [seg_of hv.sg]
  rw [hm]
  clear hm
  have hcur := current_of hv
  have HS : Hid ((∀ x, D' x → D x ∨ W.heap.size ≤ x) ∧ Out (StO D k) W wr ∧ openZ st.s st.zs n L' = openZ st.s st.zs n st.L) := ⟨hD, ho, he⟩
  have HC : Hid (Calls Tryz.prog 68 #[.pointer (some ⟨k.ps, 0, none⟩)] wr fun e w' => e = .returned (.tuple #[.int .i64 (curA L'), .bool (curB L')]) ∧ Sv D W k { st with L := curL L' } c w') := by
   refine hcur.mono ?_
   rintro e w' ⟨rfl, sv⟩
   exact ⟨rfl, Sv.next hD ho sv⟩
  clear hcur hD ho he hv
  cases hb : curB L' with
  | false =>
   have hd := openZ_done (s := st.s) (zs := st.zs) (k := n) (L := L') (by rw [hb]; simp)
   have HO : Hid (openZ st.s st.zs n st.L = (curA L', false, curL L')) := by rw [← HS.out.2.2]; exact hd.trans (by rw [hb])
   rw [hb] at HC
   clear hb hd
   go_wp2_with (go_at_call 68; refine HC.out.mono ?_; rintro e w2 ⟨rfl, sv⟩)
   go_ret2
   rw [HO.out]
   exact ⟨rfl, sv⟩
  | true =>
   rcases Int.lt_or_le (roomZ st.s st.zs (curA L')) n with hr | hr
   ·have HM : Hid (muZ (turnZ (curL L') (curA L') 2 3) + 1 = muZ L' ∧ openZ st.s st.zs n (turnZ (curL L') (curA L') 2 3) = openZ st.s st.zs n st.L) := ⟨cur_mu hb, by rw [openZ_more hb hr]; exact HS.out.2.2⟩
    have hr' : ¬ n ≤ roomZ st.s st.zs (curA L') := by omega
    obtain ⟨R, hR⟩ : ∃ R, R = roomZ st.s st.zs (curA L') := ⟨_, rfl⟩
    rw [← hR] at hr'
    rw [hb] at HC
    have HC2 : Hid (Calls Tryz.prog 68 #[.pointer (some ⟨k.ps, 0, none⟩)] wr fun e w' => e = .returned (.tuple #[.int .i64 (curA L'), .bool true]) ∧ Calls Tryz.prog 33 #[.pointer (some ⟨k.ps, 0, none⟩), .int .i64 (curA L')] w' fun e w'' => e = .returned (.int .i64 R) ∧ w''.cell? ⟨k.ps, 1, none⟩ = some (.pointer (some ⟨k.pg, 0, none⟩)) ∧ Calls Tryz.prog 69 #[.pointer (some ⟨k.pg, 0, none⟩), .int .i64 (curA L')] w'' fun e w3 => (∃ v, e = .returned v) ∧ Sv D W k { st with L := turnZ (curL L') (curA L') 2 3 } c w3) := by
     refine HC.out.mono ?_
     rintro e w' ⟨rfl, D2, hv2, hD2, ho2⟩
     refine ⟨rfl, (sroom_of (curA L') hv2).mono ?_⟩
     rintro e w'' ⟨rfl, hb2⟩
     have hv3 := hv2.under hb2
     refine ⟨by rw [hR], hv3.cells.2.1, (gFill_of k.pg k.gg st.s.r (curL L') (curA L') w'' hv3.sg).mono ?_⟩
     rintro e w3 ⟨rfl, h1, h2⟩
     exact ⟨⟨_, rfl⟩, Sv.next hD2 (ho2.under hb2) (hv3.sgstep h1 h2 (turnZ_length _ _ _ _))⟩
    clear HC hb hr hR
    go_wp2_with (first
     | (go_at_call 68; refine HC2.out.mono ?_; rintro e w2 ⟨rfl, hro⟩)
     | (go_at_call 33; refine hro.mono ?_; rintro e w3 ⟨rfl, x1, hfi⟩)
     | (go_at_call 69; refine hfi.mono ?_; rintro e w4 ⟨⟨v4, rfl⟩, sv⟩))
    go_roundw
    case rel => exact ⟨_, sv, HM.out.2⟩
    case measure =>
     obtain ⟨D4, hv4, _⟩ := sv
     rw [seg_of hv4.sg]
     have := HM.out.1
     simp only
     omega
   ·have hd := openZ_done (s := st.s) (zs := st.zs) (k := n) (L := L') (by omega)
    have HO : Hid (openZ st.s st.zs n st.L = (curA L', true, curL L')) := by rw [← HS.out.2.2]; exact hd.trans (by rw [hb])
    obtain ⟨R, hR⟩ : ∃ R, R = roomZ st.s st.zs (curA L') := ⟨_, rfl⟩
    rw [← hR] at hr
    rw [hb] at HC
    have HC2 : Hid (Calls Tryz.prog 68 #[.pointer (some ⟨k.ps, 0, none⟩)] wr fun e w' => e = .returned (.tuple #[.int .i64 (curA L'), .bool true]) ∧ Calls Tryz.prog 33 #[.pointer (some ⟨k.ps, 0, none⟩), .int .i64 (curA L')] w' fun e w'' => e = .returned (.int .i64 R) ∧ Sv D W k { st with L := curL L' } c w'') := by
     refine HC.out.mono ?_
     rintro e w' ⟨rfl, D2, hv2, hD2, ho2⟩
     refine ⟨rfl, (sroom_of (curA L') hv2).mono ?_⟩
     rintro e w'' ⟨rfl, hb2⟩
     exact ⟨by rw [hR], D2, hv2.under hb2, hD2, ho2.under hb2⟩
    clear HC hb hd hR
    go_wp2_with (first
     | (go_at_call 68; refine HC2.out.mono ?_; rintro e w2 ⟨rfl, hro⟩)
     | (go_at_call 33; refine hro.mono ?_; rintro e w3 ⟨rfl, sv⟩))
    go_ret2
    rw [HO.out]
    exact ⟨rfl, sv⟩
theorem PtsIn.at (X : Nat → Prop) {w : World} {a : Option Addr} {n : Nat} {l : List Pt} (h : PtsIn X w a n l) {i : Nat} (hi : i < n) : ∃ (p : Pt) (b off : Nat), l[i]? = some p ∧ a = some ⟨b, off, none⟩ ∧ X b ∧ PtAt X w b (off + i * 4) p := by
 obtain ⟨b, off, rfl, hb, hc⟩ := h.2.2.resolve_left (by omega)
 have : i < l.length := by rw [h.1]; exact hi
 exact ⟨l[i], b, off, by simp [this], rfl, hb, hc i _ (by simp [this])⟩
theorem pdrop_at {α : Type} {l : List α} {j : Nat} {p : α} (h : l[j]? = some p) : l.drop j = p :: l.drop (j + 1) := by
 have hj := (List.getElem?_eq_some_iff.1 h).1
 have e := (List.getElem?_eq_some_iff.1 h).2
 rw [List.drop_eq_getElem_cons hj, e]
theorem frN_end {l : List Pt} {i j n : Nat} {d : Int} (hl : l.length = n) (h : j = n ∨ j = i) : frN (l.drop j) (i - j) d = 0 := by
 rcases h with h | h
 ·rw [List.drop_of_length_le (by omega)]
  rfl
 ·subst h
  rw [Nat.sub_self]
  cases l.drop j <;> rfl
theorem frN_step {l : List Pt} {i j : Nat} {d : Int} {p : Pt} (hp : l[j]? = some p) (hi : j < i) : frN (l.drop j) (i - j) d = if p.x = true then frN (l.drop (j + 1)) (i - (j + 1)) d + 1 else if 0 < d then frN (l.drop (j + 1)) (i - (j + 1)) (d - 1) + 1 else 0 := by
 rw [pdrop_at hp, show i - j = (i - (j + 1)) + 1 by omega]
 rfl
set_option maxHeartbeats 2000000 in
theorem front_of (a : Option Addr) (n cc : Nat) (l : List Pt) (X : Nat → Prop) (i : Nat) (d : Int) (h : PtsIn X W a n l) (hcc : n ≤ cc) (hi : i ≤ 1000) (hd : -1 ≤ d ∧ d ≤ 10000) : Calls Tryz.prog 31 #[.slice a n cc, .int .i64 (i : Nat), .int .i64 d] W fun e w' => e = .returned (.slice a (frN l i d) cc) ∧ Below W.heap.size W w' := by
 have hn : n ≤ 1000 := h.2.1
 have H : Hid (PtsIn X W a n l) := h
 clear h
 go_enter Tryz.func31, Tryz.ntmps31
 go_wp2
 go_step3
 go_wp2
 go_step3
 go_wp2
 go_loopw [2, 7] (fun dv nv wr => ∃ (j : Nat) (d' : Int), nv = .int .i64 j ∧ dv = .int .i64 d' ∧ -1 ≤ d' ∧ d' ≤ 10000 ∧ j ≤ n ∧ j ≤ i ∧ frN l i d = j + frN (l.drop j) (i - j) d' ∧ wr = W) (fun _ nv _ => n - (intOf nv).toNat)
 case atStart => exact ⟨0, d, rfl, rfl, hd.1, hd.2, Nat.zero_le _, Nat.zero_le _, by simp, rfl⟩
 case round =>
  obtain ⟨j, d', rfl, rfl, hd1, hd2, hjn, hji, hf, rfl⟩ := hrel
  have HF : Hid (frN l i d = j + frN (l.drop j) (i - j) d') := hf
  clear hf
  by_cases hlt : j < n ∧ j < i
  ·obtain ⟨hjn', hji'⟩ := hlt
   obtain ⟨p, b, off, hp, rfl, hb, A, L, C, hc, _⟩ := H.out.at X hjn'
   have x2 : wr.cell? ⟨b, off + j * 4 + 2, none⟩ = some (.bool p.x) := hc 2 _ rfl
   have hstep := frN_step (d := d') hp hji'
   have hwk : IntKind.i64.wrap ((j : Int) + 1) = (j : Int) + 1 := by rw [IntKind.wrap_i64]; omega
   have hwd : IntKind.i64.wrap (d' - 1) = d' - 1 := by rw [IntKind.wrap_i64]; omega
   clear hc
   cases hx : p.x with
   | true =>
    rw [hx, if_pos rfl] at hstep
    have HF2 : Hid (frN l i d = (j + 1) + frN (l.drop (j + 1)) (i - (j + 1)) d') := by have := HF.out; rw [hstep] at this; exact (by omega : frN l i d = (j + 1) + frN (l.drop (j + 1)) (i - (j + 1)) d')
    rw [hx] at x2
    clear hx hstep hp
    rcases Nat.lt_or_ge i n with hin | hin
    all_goals (
     go_wp2
     go_roundw
     case rel => exact ⟨j + 1, d', by simp, rfl, hd1, hd2, by omega, by omega, HF2.out, trivial⟩
     case measure => simp [intOf]; omega)
   | false =>
    rw [hx, if_neg (by decide)] at hstep
    rw [hx] at x2
    clear hx hp
    rcases Int.lt_or_le 0 d' with hd0 | hd0
    ·rw [if_pos hd0] at hstep
     have HF2 : Hid (frN l i d = (j + 1) + frN (l.drop (j + 1)) (i - (j + 1)) (d' - 1)) := by have := HF.out; rw [hstep] at this; exact (by omega : frN l i d = (j + 1) + frN (l.drop (j + 1)) (i - (j + 1)) (d' - 1))
     clear hstep
     rcases Nat.lt_or_ge i n with hin | hin
     all_goals (
      go_wp2
      go_roundw
      case rel => exact ⟨j + 1, d' - 1, by simp, rfl, by omega, by omega, by omega, by omega, HF2.out, trivial⟩
      case measure => simp [intOf]; omega)
    ·rw [if_neg (by omega)] at hstep
     have HF2 : Hid (frN l i d = j) := by have := HF.out; rw [hstep] at this; exact this
     clear hstep
     have hd0' : ¬ 0 < d' := by omega
     rcases Nat.lt_or_ge i n with hin | hin
     all_goals (
      go_wp2
      all_goals (
       go_ret
       exact ⟨by rw [HF2.out]; rfl, Below.refl _ _⟩))
  ·have HF2 : Hid (frN l i d = j) := by have := HF.out; rw [frN_end H.out.1 (by omega)] at this; exact this
   rcases Nat.lt_or_ge i n with hin | hin
   ·obtain rfl : j = i := by omega
    go_wp2
    all_goals (
     first | go_ret | (rw [Exit.noGoto_ret]; go_ret)
     exact ⟨by rw [HF2.out]; rfl, Below.refl _ _⟩)
   ·obtain rfl : j = n := by omega
    go_wp2
    all_goals (
     first | go_ret | (rw [Exit.noGoto_ret]; go_ret)
     exact ⟨by rw [HF2.out]; rfl, Below.refl _ _⟩)
set_option maxHeartbeats 2000000 in
theorem sitem_of (p : Pt) (A : Option Addr) (L C : Nat) (h : BIn W A L p.d) (hL : L ≤ 10000) : Calls Tryz.prog 70 #[ptV p (.slice A L C)] W fun e w' => e = .returned (.agg #[.int .u32 (itP p).t, .int .u64 (itP p).b, .int .u8 (itP p).k, .int .u32 (itP p).s, .int .u16 (itP p).e]) ∧ Below W.heap.size W w' := by
 obtain ⟨t, b, x, d⟩ := p
 unfold ptV
 cases x
 ·obtain ⟨E, hE⟩ : ∃ E, E = endsN d := ⟨_, rfl⟩
  obtain ⟨Z, hZ⟩ : ∃ Z, Z = crI 0 d := ⟨_, rfl⟩
  have hE1 : E ≤ L := by have := (ends_at d).1; rw [hE, ← h.1]; exact this
  have hwE : IntKind.u16.wrap (E : Int) = (E : Int) := by rw [IntKind.wrap_u16]; omega
  have HI : Hid (itP ⟨t, b, false, d⟩ = ⟨t, b, 1, Z, (E : Nat)⟩) := by rw [hE, hZ]; exact rfl
  have HB : Hid (∀ X, Below W.heap.size W X → BIn X A L d) := fun X hX => h.below hX
  have HS : Hid (∀ (X : World) (g : Nat), X.cell? ⟨g, 0, none⟩ = some (.slice A L C) → Below W.heap.size W X → Calls Tryz.prog 41 #[.slice (some ⟨g, 0, none⟩) 1 1] X fun e w' => e = .returned (.int .u32 Z) ∧ w' = X) := fun X g hc hX => by rw [hZ]; exact crcSum_of g A L C 1 d X hc (h.below hX)
  have HN : Hid (∀ X, Below W.heap.size W X → Calls Tryz.prog 40 #[.slice A L C] X fun e w' => e = .returned (.int .i64 (E : Nat)) ∧ w' = X) := fun X hX => by rw [hE]; exact ends_of A L C d X (h.below hX)
  clear h hE hZ
  obtain ⟨q, hq⟩ : ∃ q, q = W.heap.size := ⟨_, rfl⟩
  have HW : Hid (∀ X, X = (((W.alloc (.cells #[.int .u32 t, .int .u64 b, .bool false, .slice A L C] 61)).alloc (.cells #[.int .u32 0, .int .u64 0, .int .u8 0, .int .u32 0, .int .u16 0] 50)).alloc (.cells #[.int .u32 t, .int .u64 b, .int .u8 2, .int .u32 0, .int .u16 0] 50)) → Blk X q [.int .u32 t, .int .u64 b, .bool false, .slice A L C] 61 ∧ Blk X (q + 1) [.int .u32 0, .int .u64 0, .int .u8 0, .int .u32 0, .int .u16 0] 50 ∧ Blk X (q + 1 + 1) [.int .u32 t, .int .u64 b, .int .u8 2, .int .u32 0, .int .u16 0] 50 ∧ Below W.heap.size W X ∧ X.heap.size = q + 1 + 1 + 1) := by
   rintro X rfl
   exact ⟨((Blk.new' hq.symm rfl).alloc _).alloc _, (Blk.new' (by simp [hq]) rfl).alloc _, Blk.new' (by simp [hq]) rfl, (((Below.refl _ _).alloc (Nat.le_refl _) _).alloc (by simp) _).alloc (by simp; omega) _, by simp [hq]⟩
  go_enter Tryz.func70, Tryz.ntmps70
  go_wp2_with fail
  rw [← hq]
  generalize hX : World.alloc (World.alloc (World.alloc W _) _) _ = X
  obtain ⟨hb1, hb0, hb2, hbl, hsz⟩ := HW.out X hX.symm
  have z0 := hb0.cell 0
  have z1 := hb0.cell 1
  have z2 := hb0.cell 2
  have z3 := hb0.cell 3
  have z4 := hb0.cell 4
  have g0 := hb0.frozen 0
  have g1 := hb0.frozen 1
  have g2 := hb0.frozen 2
  have g3 := hb0.frozen 3
  have g4 := hb0.frozen 4
  have x3 := hb1.cell 3
  have y0 := hb2.cell 0
  have y1 := hb2.cell 1
  have y2 := hb2.cell 2
  have y3 := hb2.cell 3
  have y4 := hb2.cell 4
  have f2 := hb2.frozen 2
  have f3 := hb2.frozen 3
  have f4 := hb2.frozen 4
  simp only [List.getElem?_cons_zero, List.getElem?_cons_succ] at x3 y0 y1 y2 y3 y4 z0 z1 z2 z3 z4
  have n1 : q ≠ q + 1 + 1 := by omega
  have n2 : q + 1 + 1 ≠ q := by omega
  have n3 : q + 1 + 1 + 1 ≠ q + 1 + 1 := by omega
  have n4 : q + 1 + 1 ≠ q + 1 + 1 + 1 := by omega
  have n5 : q + 1 ≠ q + 1 + 1 := by omega
  have n6 : q + 1 + 1 ≠ q + 1 := by omega
  have n7 : q + 1 ≠ q + 1 + 1 + 1 := by omega
  have n8 : q + 1 + 1 + 1 ≠ q + 1 := by omega
  have HX : Hid (Blk X (q + 1) [.int .u32 0, .int .u64 0, .int .u8 0, .int .u32 0, .int .u16 0] 50 ∧ Below W.heap.size W X ∧ q = W.heap.size) := ⟨hb0, hbl, hq⟩
  clear hb0 hb1 hb2 hbl hq hX HW
  go_region_with (first
   | (go_at_call 41; refine (HS.out _ _ (by first | exact (Blk.new' hsz rfl).drew.cell 0 | exact (Blk.new' hsz rfl).cell 0) (by first | exact below_drew (HX.out.2.1.alloc HX.out.2.1.size _) | exact HX.out.2.1.alloc HX.out.2.1.size _)).mono ?_; rintro e w' ⟨rfl, rfl⟩)
   | (go_at_call 40; refine (HN.out _ (by first | exact below_drew (HX.out.2.1.alloc HX.out.2.1.size _) | exact HX.out.2.1.alloc HX.out.2.1.size _)).mono ?_; rintro e w' ⟨rfl, rfl⟩))
  all_goals go_wp2
  all_goals (
   have hfin := (((((((((HX.out.1.set_other (a := ⟨q + 1 + 1, 2, none⟩) n5 (.int .u8 1)).set_other (a := ⟨q + 1 + 1, 3, none⟩) n5 (.int .u32 Z)).set_other (a := ⟨q + 1 + 1, 4, none⟩) n5 (.int .u16 (E : Nat))).set 0 (.int .u32 t)).set 1 (.int .u64 b)).set 2 (.int .u8 1)).set 3 (.int .u32 Z)).set 4 (.int .u16 (E : Nat))).alloc (.cells #[.slice A L C] 51)).drew
   refine bodyPost_ret (results_cell_one (p := 2) (ty := 50) rfl _ _ _ _ _ _ rfl hfin Tryz.underlying50 rfl Tryz.info_item) rfl ⟨by rw [HI.out]; rfl, ?_⟩
   have hq := HX.out.2.2
   refine below_drew (Below.alloc ?_ (by simp; omega) _)
   repeat refine Below.setCell ?_ (by simp; omega) _
   exact HX.out.2.1)
 ·obtain ⟨q, hq⟩ : ∃ q, q = W.heap.size := ⟨_, rfl⟩
  have HW : Hid (∀ X, X = (((W.alloc (.cells #[.int .u32 t, .int .u64 b, .bool true, .slice A L C] 61)).alloc (.cells #[.int .u32 t, .int .u64 b, .int .u8 2, .int .u32 0, .int .u16 0] 50)).alloc (.cells #[.int .u32 t, .int .u64 b, .int .u8 2, .int .u32 0, .int .u16 0] 50)) → Blk X (W.heap.size + 1) [.int .u32 t, .int .u64 b, .int .u8 2, .int .u32 0, .int .u16 0] 50 ∧ Below W.heap.size W X) := by
   rintro X rfl
   exact ⟨(Blk.new' (by simp) rfl).alloc _, (((Below.refl _ _).alloc (Nat.le_refl _) _).alloc (by simp) _).alloc (by simp; omega) _⟩
  go_enter Tryz.func70, Tryz.ntmps70
  go_wp2_with fail
  exact bodyPost_ret (results_cell_one (p := 2) (ty := 50) rfl _ _ _ _ _ _ rfl (HW.out _ rfl).1 Tryz.underlying50 rfl Tryz.info_item) rfl ⟨rfl, (HW.out _ rfl).2⟩
end
end
end Go.Proofs.YtcdnjeiamihhbabGreat
