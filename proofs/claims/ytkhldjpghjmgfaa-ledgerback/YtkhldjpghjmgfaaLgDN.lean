/- The document's New. -/
import Derived.Test.YtkhldjpghjmgfaaLgDT
import Derived.Deep.RegionHeld3
namespace Go.Proofs.Ytkhldjpghjmgfaa
open Go.RowKit
set_option linter.unusedVariables false
set_option maxRecDepth 4000

/-- One row of the old ones. -/
def s1Q (i q : Int) (st : Qs × Bool) (y : Int × Int) : Qs × Bool := if st.2 = false ∧ i ≤ y.1 then (st.1 ++ [(i, q)], true) else st
def stQ (i q : Int) (st : Qs × Bool) (y : Int × Int) : Qs × Bool := if y.1 ≠ i then ((s1Q i q st y).1 ++ [y], (s1Q i q st y).2) else s1Q i q st y
def endQ (i q : Int) (st : Qs × Bool) : Qs := if st.2 then st.1 else st.1 ++ [(i, q)]
theorem stA {i q : Int} {O : Qs} {y : Int × Int} (h : y.1 < i) : stQ i q (O, false) y = (O ++ [y], false) := by
  have e : s1Q i q (O, false) y = (O, false) := if_neg (fun hh => by have := hh.2; omega)
  unfold stQ
  rw [if_pos (by omega), e]
theorem stB {i q : Int} {O : Qs} {y : Int × Int} (h : y.1 = i) : stQ i q (O, false) y = (O ++ [(i, q)], true) := by
  have e : s1Q i q (O, false) y = (O ++ [(i, q)], true) := if_pos ⟨rfl, by omega⟩
  unfold stQ
  rw [if_neg (fun hh => hh h), e]
theorem stC {i q : Int} {O : Qs} {y : Int × Int} (h : i < y.1) : stQ i q (O, false) y = (O ++ [(i, q)] ++ [y], true) := by
  have e : s1Q i q (O, false) y = (O ++ [(i, q)], true) := if_pos ⟨rfl, by omega⟩
  unfold stQ
  rw [if_pos (by omega), e]
theorem stD {i q : Int} {O : Qs} {y : Int × Int} (h : y.1 ≠ i) : stQ i q (O, true) y = (O ++ [y], true) := by
  have e : s1Q i q (O, true) y = (O, true) := if_neg (fun hh => by cases hh.1)
  unfold stQ
  rw [if_pos h, e]
theorem stE {i q : Int} {O : Qs} {y : Int × Int} (h : y.1 = i) : stQ i q (O, true) y = (O, true) := by
  have e : s1Q i q (O, true) y = (O, true) := if_neg (fun hh => by cases hh.1)
  unfold stQ
  rw [if_neg (fun hh => hh h), e]
theorem st_done {i q : Int} : ∀ (Q : Qs) (acc : Qs), (∀ x ∈ Q, i < x.1) → Q.foldl (stQ i q) (acc, true) = (acc ++ Q, true)
  | [], acc, _ => by simp
  | y :: t, acc, h => by
    have hy := h y (by simp)
    rw [List.foldl_cons, stD (by omega), st_done t _ (fun x hx => h x (by simp [hx]))]
    simp
theorem st_put {i q : Int} : ∀ (Q : Qs) (acc : Qs), Rise Q → endQ i q (Q.foldl (stQ i q) (acc, false)) = acc ++ putQ Q i q
  | [], acc, _ => by simp [endQ, putQ]
  | (j, r) :: t, acc, h => by
    have h1 := (List.pairwise_cons.1 h).1
    have h2 : Rise t := (List.pairwise_cons.1 h).2
    rw [List.foldl_cons]
    unfold putQ
    by_cases hj : j < i
    · rw [stA hj, st_put t _ h2, if_pos hj]
      simp
    · rw [if_neg hj]
      by_cases he : j = i
      · rw [stB he, if_pos he, st_done t _ (fun x hx => by have := h1 x hx; simp at this; omega)]
        simp [endQ]
      · rw [stC (y := (j, r)) (show i < j by omega), if_neg he, st_done t _ (fun x hx => by have := h1 x hx; simp at this; omega)]
        simp [endQ]
theorem st_len {i q : Int} : ∀ (Q : Qs) (st : Qs × Bool), ((Q.foldl (stQ i q) st).1.length + if (Q.foldl (stQ i q) st).2 then 0 else 1) ≤ Q.length + (st.1.length + if st.2 then 0 else 1)
  | [], st => by simp only [List.foldl_nil, List.length_nil, Nat.zero_add]; exact Nat.le_refl _
  | y :: t, st => by
    obtain ⟨O, d⟩ := st
    have ih := st_len (i := i) (q := q) t (stQ i q (O, d) y)
    rw [List.foldl_cons, List.length_cons]
    refine Nat.le_trans ih ?_
    cases d with
    | false =>
      rcases Int.lt_trichotomy y.1 i with h | h | h
      · rw [stA h]; simp; omega
      · rw [stB h]; simp
      · rw [stC h]; simp; omega
    | true =>
      by_cases h : y.1 = i
      · rw [stE h]; simp
      · rw [stD h]; simp; omega
theorem take_one {α : Type} {l : List α} {k : Nat} {x : α} (h : l[k]? = some x) : l.take (k + 1) = l.take k ++ [x] := by rw [List.take_add_one, h]; rfl
def zU : Int → Int := fun _ => 0
theorem Try.zero_row : (Try.prog.info? 63).map (fun i => (i.zero, i.size, i.bytes)) = some (some (.agg #[.int .u32 0, .int .u64 0, .int .u64 0]), 3, 24) := by kernel_rfl
theorem rwS_snoc (O : Qs) (y : Int × Int) : rwS (O ++ [y]) zU = rwS O zU ++ [(y.1, y.2, 0)] := by simp [rwS, zU]
/-- One row more. -/
theorem app_rw {W : World} {B : Nat} {a : Option Addr} {n cc : Nat} {O : Qs} (h : W.ownsRow B 63 3 (.slice a n cc) n (rowC rC (rwS O zU))) (y : Int × Int) (hn : n ≤ 100000) (hB : B ≤ W.heap.size) (q : Nat) (hq : W.heap.size = q) :
    ∃ g' cc' W', (Builtin.append_ #[59, 59] 59 #[.slice a n cc, .slice (some ⟨q, 0, none⟩) 1 1]).run Try.prog (W.alloc (.cells #[.int .u32 y.1, .int .u64 y.2, .int .u64 0] 63)) = .ok (.slice (some ⟨g', 0, none⟩) (n + 1) cc') W' ∧
      W'.ownsRow B 63 3 (.slice (some ⟨g', 0, none⟩) (n + 1) cc') (n + 1) (rowC rC (rwS (O ++ [y]) zU)) ∧ W.grownBy W' (Value.slice a n cc).ownBlock := by
  obtain ⟨g', cc', W', h1, h2, h3⟩ := app_one Try.underlying59 Try.zero_row rfl (by decide) (by decide) rC_length rC_one h (y.1, y.2, 0) _ rfl hn hB q hq
  rw [← rwS_snoc] at h2
  exact ⟨g', cc', W', h1, h2, h3⟩
theorem LD_new {V0 wx : World} {q : Nat} {Q P : Qs} {A : Option Addr} {n C : Nat} {i v : Int} (hL : LD V0 q q Q zU) (hbx : Below V0.heap.size V0 wx) (hown : wx.ownsRow V0.heap.size 63 3 (.slice A n C) n (rowC rC (rwS P zU))) (hP : P = putQ Q i v) (hi : FitsW i) (hv : FitsQ v) :
    wx.frozen? ⟨q, 0, none⟩ = false ∧ LD (wx.setCell ⟨q, 0, none⟩ (.slice A n C)) q q P zU ∧ Below q V0 (wx.setCell ⟨q, 0, none⟩ (.slice A n C)) := by
  obtain ⟨a, m, c, hb, _⟩ := hL.row
  have hq : q < V0.heap.size := hb.lt
  have hb2 := hb.below hbx hq
  refine ⟨hb2.frozen 0, ⟨⟨A, n, C, hb2.set 0 _, ?_⟩, Nat.le_refl _, by rw [hP]; exact hL.ri.put _ _, by rw [hP]; exact hL.qf.put hi hv, fun k => ⟨Int.le_refl _, ?_⟩⟩, (hbx.mono (Nat.le_of_lt hq)).setCell (p := ⟨q, 0, none⟩) (Nat.le_refl _) _⟩
  · refine own_base ((Out.setCell (O := InB q) (Out.refl _ wx) (p := ⟨q, 0, none⟩) (.inl rfl) (.slice A n C)).own hown (fun g hg => ?_)) (fun g hg => ?_)
    · rintro rfl
      have := (hown.lt _ hg).1
      omega
    · have := (hown.lt g hg).1
      omega
  · rw [hP]; exact (quoI_fits (hL.qf.put hi hv) k).1
set_option maxHeartbeats 4000000 in
theorem dlNew_of (a : Option Addr) (n c : Nat) (ts : List Tn) (w : World) (h : TsL w a n ts) (hn : n ≤ 1000) :
    Calls Try.prog 14 #[.slice a n c] w fun e w' => e = .returned (.pointer (some ⟨w.heap.size, 0, none⟩)) ∧ LD w' w.heap.size w.heap.size (quoS ts) zU ∧ Below w.heap.size w w' := by
  obtain ⟨q, hq⟩ : ∃ q, q = w.heap.size := ⟨_, rfl⟩
  have H : Hid (q = w.heap.size ∧ TsL w a n ts) := ⟨hq, h⟩
  have H0 : Hid (LD (w.alloc (.cells #[.slice none 0 0] 61)) q q [] zU ∧ Below q w (w.alloc (.cells #[.slice none 0 0] 61))) :=
    ⟨⟨⟨none, 0, 0, Blk.new' hq.symm rfl, ⟨rfl, .inl ⟨rfl, rfl⟩⟩⟩, Nat.le_refl _, List.Pairwise.nil, (fun x hx => by cases hx), fun i => ⟨Int.le_refl _, Int.le_refl _⟩⟩, (Below.refl _ _).alloc (by omega) _⟩
  rw [← hq]
  clear h
  go_enter Try.func14, Try.ntmps14
  go_wp2
  rw [← hq]
  generalize hV : World.alloc w _ = V at H0
  clear hV hq
  go_loopw [4] (fun i wr => ∃ k : Nat, k ≤ n ∧ i = .int .i64 k ∧ LD wr q q (quoS (ts.take k)) zU ∧ Below q w wr) (fun i _ => n - (intOf i).toNat)
  case atStart => exact ⟨0, by omega, rfl, H0.out.1, H0.out.2⟩
  case round =>
    obtain ⟨k, hk, rfl, hL, hbel⟩ := hrel
    obtain ⟨V0, rfl⟩ : ∃ V0, V0 = wr := ⟨_, rfl⟩
    clear H0
    by_cases hlt : k < n
    · have hlt' : (k : Int) < n := by omega
      obtain ⟨b, off, ha, hrow⟩ := H.out.2.2.2.resolve_left (by omega)
      subst ha
      obtain ⟨t, ht⟩ : ∃ t, ts[k]? = some t := ⟨_, List.getElem?_eq_getElem (by rw [H.out.2.1]; exact hlt)⟩
      have hR := hrow k t ht
      have hR' : V0.rangeAt b (off + k * 5) (tC t) := rangeAt_same hR (hbel.block b (by rw [H.out.1]; exact rangeAt_lt hR))
      have hf : t.Fits := H.out.2.2.1 t (List.mem_of_getElem? ht)
      obtain ⟨Q, hQ⟩ : ∃ Q, Q = quoS (ts.take k) := ⟨_, rfl⟩
      have HQ : Hid (Q = quoS (ts.take k) ∧ ts[k]? = some t ∧ t.Fits) := ⟨hQ, ht, hf⟩
      rw [← hQ] at hL
      have hQl : Q.length ≤ k := by have := quo_le (ts.take k); rw [← hQ, List.length_take] at this; omega
      clear ht hf hR hrow hQ
      obtain ⟨a', n', c', hb', hr'⟩ := hL.row
      obtain ⟨hn', hc'⟩ := own_row rC_length (by decide) hr'
      rw [rwS_length] at hn'
      subst hn'
      have HL : Hid (LD V0 q q Q zU ∧ Below q w V0) := ⟨hL, hbel⟩
      have HC : Hid (∀ W', Below V0.heap.size V0 W' → W'.cell? ⟨q, 0, none⟩ = some (.slice a' Q.length c') ∧ W'.cell? ⟨b, off + k * 5, none⟩ = some (.int .u32 t.id) ∧ W'.cell? ⟨b, off + k * 5 + 2, none⟩ = some (.int .u64 t.quota) ∧
          ∀ j y, Q[j]? = some y → ∃ g, a' = some ⟨g, 0, none⟩ ∧ W'.cell? ⟨g, j * 3, none⟩ = some (.int .u32 y.1) ∧ W'.cell? ⟨g, j * 3 + 1, none⟩ = some (.int .u64 y.2) ∧ W'.cell? ⟨g, j * 3 + 2, none⟩ = some (.int .u64 0)) := by
        intro W' hW
        have hr2 := rangeAt_same hR' (hW.block b (rangeAt_lt hR'))
        refine ⟨(hb'.below hW hb'.lt).cell 0, hr2 0 _ rfl, hr2 2 _ rfl, fun j y hy => ?_⟩
        have hlj : j < Q.length := (List.getElem?_eq_some_iff.1 hy).1
        obtain ⟨g, hg, hc2⟩ := hc'.resolve_left (by omega)
        have hr3 := hc2 j _ (rwS_at (u := zU) hy)
        have hr4 := rangeAt_same hr3 (hW.block g (rangeAt_lt hr3))
        exact ⟨g, hg, hr4 0 _ rfl, hr4 1 _ rfl, hr4 2 _ rfl⟩
      clear hb' hr' hc' hR' hL hbel
      go_wp2
      go_loopw [5, 6, 7] (fun o d i wx => ∃ (j : Nat) (O : Qs) (dn : Bool) (A : Option Addr) (C : Nat), j ≤ Q.length ∧ i = .int .i64 j ∧ (O, dn) = (Q.take j).foldl (stQ t.id t.quota) ([], false) ∧ o = .slice A O.length C ∧ d = .bool dn ∧ wx.ownsRow V0.heap.size 63 3 (.slice A O.length C) O.length (rowC rC (rwS O zU)) ∧ Below V0.heap.size V0 wx) (fun _ _ i _ => Q.length - (intOf i).toNat)
      case atStart => exact ⟨0, [], false, none, 0, by omega, rfl, rfl, rfl, rfl, ⟨rfl, .inl ⟨rfl, rfl⟩⟩, Below.refl _ _⟩
      case round =>
        obtain ⟨j, O, dn, A, C, hj, rfl, hO, rfl, rfl, hown, hbx⟩ := hrel
        have hOl : O.length ≤ j + 1 := by
          have := st_len (i := t.id) (q := t.quota) (Q.take j) ([], false)
          rw [← hO, List.length_take] at this
          simp at this
          omega
        by_cases hjl : j < Q.length
        · have hjl' : (j : Int) < Q.length := by omega
          obtain ⟨y, hy⟩ : ∃ y, Q[j]? = some y := ⟨_, List.getElem?_eq_getElem hjl⟩
          obtain ⟨wx, rfl⟩ : ∃ wx, wx = wr := ⟨_, rfl⟩
          obtain ⟨x0, x1, x2, x3⟩ := HC.out wx hbx
          obtain ⟨g, rfl, y0, y1, y2⟩ := x3 j y hy
          have hnext : (Q.take (j + 1)).foldl (stQ t.id t.quota) ([], false) = stQ t.id t.quota (O, dn) y := by
            rw [take_one hy, List.foldl_append, ← hO]; rfl
          clear x3 hO
          cases dn with
          | false =>
            rcases Int.lt_trichotomy y.1 t.id with hlt2 | heq | hgt
            · rw [stA hlt2] at hnext
              obtain ⟨p0, p1, p2, p3⟩ := HC.out wx.drew (hbx.trans (drewN_below _ wx 1))
              obtain ⟨pg, pe, p4, p5, p6⟩ := p3 j y hy
              cases pe
              clear p3
              obtain ⟨r0, r1, r2, r3⟩ := HC.out wx.drew.drew (hbx.trans (drewN_below _ wx 2))
              obtain ⟨rg, re, r4, r5, r6⟩ := r3 j y hy
              cases re
              clear r3
              obtain ⟨qg, qC, qW, qr, qo, qn⟩ := app_rw (W := wx.drew.drew) hown y (by first | omega | (simp; omega)) (hbx.trans (drewN_below _ wx 2)).size _ rfl
              have qB : Below V0.heap.size V0 qW := (hbx.trans (drewN_below _ wx 2)).grown qn (hbx.trans (drewN_below _ wx 2)).size (fun k hk => (World.ownsRow.lt hown k hk).1)
              have HN : Hid ((Q.take (j + 1)).foldl (stQ t.id t.quota) ([], false) = (O ++ [y], false) ∧ qW.ownsRow V0.heap.size 63 3 (.slice (some ⟨qg, 0, none⟩) (O.length + 1) qC) (O.length + 1) (rowC rC (rwS (O ++ [y]) zU)) ∧ Below V0.heap.size V0 qW) := ⟨hnext, qo, qB⟩
              clear hnext qo qB qn hown hbx hy
              go_wp2
              go_region
              all_goals go_wp2
              all_goals go_region
              all_goals go_wp2_with (first | (at_builtin; refine wpList_append_run rfl _ _ 59 59 rfl _ _ rfl rfl _ _ qr ?_) | go_in)
              all_goals (
                go_roundw
                case rel => exact ⟨j + 1, O ++ [y], false, some ⟨qg, 0, none⟩, qC, by omega, by go_num, HN.out.1.symm, by simp, rfl, by simpa using HN.out.2.1, HN.out.2.2⟩
                case measure => simp [intOf]; omega)
            · rw [stB heq] at hnext
              obtain ⟨p0, p1, p2, p3⟩ := HC.out wx.drew (hbx.trans (drewN_below _ wx 1))
              obtain ⟨pg, pe, p4, p5, p6⟩ := p3 j y hy
              cases pe
              clear p3
              obtain ⟨r0, r1, r2, r3⟩ := HC.out wx.drew.drew (hbx.trans (drewN_below _ wx 2))
              obtain ⟨rg, re, r4, r5, r6⟩ := r3 j y hy
              cases re
              clear r3
              obtain ⟨qg, qC, qW, qr, qo, qn⟩ := app_rw (W := wx.drew.drew) hown (t.id, t.quota) (by first | omega | (simp; omega)) (hbx.trans (drewN_below _ wx 2)).size _ rfl
              have qB : Below V0.heap.size V0 qW := (hbx.trans (drewN_below _ wx 2)).grown qn (hbx.trans (drewN_below _ wx 2)).size (fun k hk => (World.ownsRow.lt hown k hk).1)
              have qr2 : (Builtin.append_ #[59, 59] 59 #[.slice A O.length C, .slice (some ⟨wx.heap.size, 0, none⟩) 1 1]).run Try.prog (wx.alloc (.cells #[.int .u32 t.id, .int .u64 t.quota, .int .u64 0] 63)).drew.drew = .ok (.slice (some ⟨qg, 0, none⟩) (O.length + 1) qC) qW := qr
              obtain ⟨m0, m1, m2, m3⟩ := HC.out qW.drew (qB.trans (drewN_below _ qW 1))
              obtain ⟨mg, me, m4, m5, m6⟩ := m3 j y hy
              cases me
              clear m3
              have HN : Hid ((Q.take (j + 1)).foldl (stQ t.id t.quota) ([], false) = (O ++ [(t.id, t.quota)], true) ∧ qW.drew.ownsRow V0.heap.size 63 3 (.slice (some ⟨qg, 0, none⟩) (O.length + 1) qC) (O.length + 1) (rowC rC (rwS (O ++ [(t.id, t.quota)]) zU)) ∧ Below V0.heap.size V0 qW.drew) := ⟨hnext, qo, qB.trans (drewN_below _ qW 1)⟩
              have va : ∀ o, (wx.alloc o).cell? ⟨b, off + k * 5, none⟩ = some (.int .u32 t.id) := fun o => (((Below.refl _ wx).alloc (Nat.le_refl _) o).cell (old_block x1)).trans x1
              have vb : ∀ o, (wx.alloc o).cell? ⟨b, off + k * 5 + 2, none⟩ = some (.int .u64 t.quota) := fun o => (((Below.refl _ wx).alloc (Nat.le_refl _) o).cell (old_block x2)).trans x2
              have wa : qW.cell? ⟨b, off + k * 5, none⟩ = some (.int .u32 t.id) := (HC.out qW qB).2.1
              have wb : qW.cell? ⟨b, off + k * 5 + 2, none⟩ = some (.int .u64 t.quota) := (HC.out qW qB).2.2.1
              clear hnext qo qB qn hown hbx hy
              go_wp2
              go_region
              all_goals go_wp2_with fail
              all_goals go_region_held3 (fun X => X.cell? ⟨b, off + k * 5, none⟩ = some (.int .u32 t.id) ∧ X.cell? ⟨b, off + k * 5 + 2, none⟩ = some (.int .u64 t.quota)) (first | exact ⟨x1, x2⟩ | exact ⟨va _, vb _⟩ | exact ⟨wa, wb⟩) (refine cstep_append_run rfl (.tmp 43) (.tmp 55) 59 59 rfl _ _ rfl rfl _ _ qr2 ?_)
              all_goals go_wp2
              all_goals go_region
              all_goals go_wp2_with fail
              all_goals (
                go_roundw
                case rel => exact ⟨j + 1, O ++ [(t.id, t.quota)], true, some ⟨qg, 0, none⟩, qC, by omega, by go_num, HN.out.1.symm, by simp, rfl, by simpa using HN.out.2.1, HN.out.2.2⟩
                case measure => simp [intOf]; omega)
            · rw [stC hgt] at hnext
              obtain ⟨p0, p1, p2, p3⟩ := HC.out wx.drew (hbx.trans (drewN_below _ wx 1))
              obtain ⟨pg, pe, p4, p5, p6⟩ := p3 j y hy
              cases pe
              clear p3
              obtain ⟨r0, r1, r2, r3⟩ := HC.out wx.drew.drew (hbx.trans (drewN_below _ wx 2))
              obtain ⟨rg, re, r4, r5, r6⟩ := r3 j y hy
              cases re
              clear r3
              obtain ⟨qg, qC, qW, qr, qo, qn⟩ := app_rw (W := wx.drew.drew) hown (t.id, t.quota) (by first | omega | (simp; omega)) (hbx.trans (drewN_below _ wx 2)).size _ rfl
              have qB : Below V0.heap.size V0 qW := (hbx.trans (drewN_below _ wx 2)).grown qn (hbx.trans (drewN_below _ wx 2)).size (fun k hk => (World.ownsRow.lt hown k hk).1)
              have qr2 : (Builtin.append_ #[59, 59] 59 #[.slice A O.length C, .slice (some ⟨wx.heap.size, 0, none⟩) 1 1]).run Try.prog (wx.alloc (.cells #[.int .u32 t.id, .int .u64 t.quota, .int .u64 0] 63)).drew.drew = .ok (.slice (some ⟨qg, 0, none⟩) (O.length + 1) qC) qW := qr
              obtain ⟨m0, m1, m2, m3⟩ := HC.out qW.drew (qB.trans (drewN_below _ qW 1))
              obtain ⟨mg, me, m4, m5, m6⟩ := m3 j y hy
              cases me
              clear m3
              obtain ⟨sg, sC, sW, sr, so, sn⟩ := app_rw (W := qW.drew) qo y (by first | omega | (simp; omega)) (qB.trans (drewN_below _ qW 1)).size _ rfl
              have sB : Below V0.heap.size V0 sW := (qB.trans (drewN_below _ qW 1)).grown sn (qB.trans (drewN_below _ qW 1)).size (fun k hk => (World.ownsRow.lt qo k hk).1)
              have HN : Hid ((Q.take (j + 1)).foldl (stQ t.id t.quota) ([], false) = (O ++ [(t.id, t.quota)] ++ [y], true) ∧ sW.ownsRow V0.heap.size 63 3 (.slice (some ⟨sg, 0, none⟩) (O.length + 1 + 1) sC) (O.length + 1 + 1) (rowC rC (rwS (O ++ [(t.id, t.quota)] ++ [y]) zU)) ∧ Below V0.heap.size V0 sW) := ⟨hnext, so, sB⟩
              clear so sB sn
              have va : ∀ o, (wx.alloc o).cell? ⟨b, off + k * 5, none⟩ = some (.int .u32 t.id) := fun o => (((Below.refl _ wx).alloc (Nat.le_refl _) o).cell (old_block x1)).trans x1
              have vb : ∀ o, (wx.alloc o).cell? ⟨b, off + k * 5 + 2, none⟩ = some (.int .u64 t.quota) := fun o => (((Below.refl _ wx).alloc (Nat.le_refl _) o).cell (old_block x2)).trans x2
              have wa : qW.cell? ⟨b, off + k * 5, none⟩ = some (.int .u32 t.id) := (HC.out qW qB).2.1
              have wb : qW.cell? ⟨b, off + k * 5 + 2, none⟩ = some (.int .u64 t.quota) := (HC.out qW qB).2.2.1
              clear hnext qo qB qn hown hbx hy
              go_wp2
              go_region
              all_goals go_wp2_with fail
              all_goals go_region_held3 (fun X => X.cell? ⟨b, off + k * 5, none⟩ = some (.int .u32 t.id) ∧ X.cell? ⟨b, off + k * 5 + 2, none⟩ = some (.int .u64 t.quota)) (first | exact ⟨x1, x2⟩ | exact ⟨va _, vb _⟩ | exact ⟨wa, wb⟩) (refine cstep_append_run rfl (.tmp 43) (.tmp 55) 59 59 rfl _ _ rfl rfl _ _ qr2 ?_)
              all_goals go_wp2
              all_goals go_region
              all_goals go_wp2_with (first | (at_builtin; refine wpList_append_run rfl _ _ 59 59 rfl _ _ rfl rfl _ _ sr ?_) | go_in)
              all_goals (
                go_roundw
                case rel => exact ⟨j + 1, O ++ [(t.id, t.quota)] ++ [y], true, some ⟨sg, 0, none⟩, sC, by omega, by go_num, HN.out.1.symm, by simp, rfl, by simpa using HN.out.2.1, HN.out.2.2⟩
                case measure => simp [intOf]; omega)
          | true =>
            by_cases hne : y.1 = t.id
            · rw [stE hne] at hnext
              obtain ⟨p0, p1, p2, p3⟩ := HC.out wx.drew (hbx.trans (drewN_below _ wx 1))
              obtain ⟨pg, pe, p4, p5, p6⟩ := p3 j y hy
              cases pe
              clear p3
              obtain ⟨r0, r1, r2, r3⟩ := HC.out wx.drew.drew (hbx.trans (drewN_below _ wx 2))
              obtain ⟨rg, re, r4, r5, r6⟩ := r3 j y hy
              cases re
              clear r3
              have HN : Hid ((Q.take (j + 1)).foldl (stQ t.id t.quota) ([], false) = (O, true) ∧ wx.drew.drew.ownsRow V0.heap.size 63 3 (.slice A O.length C) O.length (rowC rC (rwS O zU)) ∧ Below V0.heap.size V0 wx.drew.drew) := ⟨hnext, hown, hbx.trans (drewN_below _ wx 2)⟩
              clear hnext hown hbx hy
              go_wp2
              go_region
              all_goals go_wp2
              all_goals go_region
              all_goals go_wp2
              all_goals (
                go_roundw
                case rel => exact ⟨j + 1, O, true, A, C, by omega, by go_num, HN.out.1.symm, by simp, rfl, by simpa using HN.out.2.1, HN.out.2.2⟩
                case measure => simp [intOf]; omega)
            · rw [stD hne] at hnext
              obtain ⟨p0, p1, p2, p3⟩ := HC.out wx.drew (hbx.trans (drewN_below _ wx 1))
              obtain ⟨pg, pe, p4, p5, p6⟩ := p3 j y hy
              cases pe
              clear p3
              obtain ⟨r0, r1, r2, r3⟩ := HC.out wx.drew.drew (hbx.trans (drewN_below _ wx 2))
              obtain ⟨rg, re, r4, r5, r6⟩ := r3 j y hy
              cases re
              clear r3
              obtain ⟨qg, qC, qW, qr, qo, qn⟩ := app_rw (W := wx.drew.drew) hown y (by first | omega | (simp; omega)) (hbx.trans (drewN_below _ wx 2)).size _ rfl
              have qB : Below V0.heap.size V0 qW := (hbx.trans (drewN_below _ wx 2)).grown qn (hbx.trans (drewN_below _ wx 2)).size (fun k hk => (World.ownsRow.lt hown k hk).1)
              have HN : Hid ((Q.take (j + 1)).foldl (stQ t.id t.quota) ([], false) = (O ++ [y], true) ∧ qW.ownsRow V0.heap.size 63 3 (.slice (some ⟨qg, 0, none⟩) (O.length + 1) qC) (O.length + 1) (rowC rC (rwS (O ++ [y]) zU)) ∧ Below V0.heap.size V0 qW) := ⟨hnext, qo, qB⟩
              clear hnext qo qB qn hown hbx hy
              go_wp2
              go_region
              all_goals go_wp2
              all_goals go_region
              all_goals go_wp2_with (first | (at_builtin; refine wpList_append_run rfl _ _ 59 59 rfl _ _ rfl rfl _ _ qr ?_) | go_in)
              all_goals (
                go_roundw
                case rel => exact ⟨j + 1, O ++ [y], true, some ⟨qg, 0, none⟩, qC, by omega, by go_num, HN.out.1.symm, by simp, rfl, by simpa using HN.out.2.1, HN.out.2.2⟩
                case measure => simp [intOf]; omega)
        · obtain ⟨wx, rfl⟩ : ∃ wx, wx = wr := ⟨_, rfl⟩
          have hjl' : ¬ ((j : Int) < Q.length) := by omega
          obtain ⟨x0, x1, x2, x3⟩ := HC.out wx hbx
          clear x3
          have hP := st_put (i := t.id) (q := t.quota) Q [] HL.out.1.ri
          rw [List.take_of_length_le (by omega)] at hO
          rw [← hO, List.nil_append] at hP
          have hnx : putQ Q t.id t.quota = quoS (ts.take (k + 1)) := by rw [quo_next HQ.out.2.1, ← HQ.out.1]
          have hfi := HQ.out.2.2.1
          have hfq := HQ.out.2.2.2.1
          cases dn with
          | true =>
            obtain ⟨z1, z2, z3⟩ := LD_new HL.out.1 hbx hown hP hfi hfq
            have HN : Hid (LD (wx.setCell ⟨q, 0, none⟩ (.slice A O.length C)) q q (quoS (ts.take (k + 1))) zU ∧ Below q w (wx.setCell ⟨q, 0, none⟩ (.slice A O.length C))) := ⟨by rw [← hnx, ← hP]; exact z2, HL.out.2.trans z3⟩
            clear z2 z3 hown hbx hO hP hnx
            go_wp2
            go_roundw
            case rel => exact ⟨k + 1, by omega, by go_num, HN.out.1, HN.out.2⟩
            case measure => simp [intOf]; omega
          | false =>
            obtain ⟨p0, p1, p2, p3⟩ := HC.out wx.drew (hbx.trans (drewN_below _ wx 1))
            clear p3
            obtain ⟨qg, qC, qW, qr, qo, qn⟩ := app_rw (W := wx.drew) hown (t.id, t.quota) (by first | omega | (simp; omega)) (hbx.trans (drewN_below _ wx 1)).size _ rfl
            have qB : Below V0.heap.size V0 qW := (hbx.trans (drewN_below _ wx 1)).grown qn (hbx.trans (drewN_below _ wx 1)).size (fun k hk => (World.ownsRow.lt hown k hk).1)
            have qr2 : (Builtin.append_ #[59, 59] 59 #[.slice A O.length C, .slice (some ⟨wx.heap.size, 0, none⟩) 1 1]).run Try.prog (wx.alloc (.cells #[.int .u32 t.id, .int .u64 t.quota, .int .u64 0] 63)).drew = .ok (.slice (some ⟨qg, 0, none⟩) (O.length + 1) qC) qW := qr
            obtain ⟨z1, z2, z3⟩ := LD_new HL.out.1 qB qo hP hfi hfq
            have HN : Hid (LD (qW.setCell ⟨q, 0, none⟩ (.slice (some ⟨qg, 0, none⟩) (O.length + 1) qC)) q q (quoS (ts.take (k + 1))) zU ∧ Below q w (qW.setCell ⟨q, 0, none⟩ (.slice (some ⟨qg, 0, none⟩) (O.length + 1) qC))) := ⟨by rw [← hnx, ← hP]; exact z2, HL.out.2.trans z3⟩
            have hql : q < qW.heap.size := by obtain ⟨_, _, _, hbq, _⟩ := HL.out.1.row; have := hbq.lt; have := qB.size; omega
            obtain ⟨f0, _⟩ := HC.out qW qB
            have va : ∀ o, (wx.alloc o).cell? ⟨b, off + k * 5, none⟩ = some (.int .u32 t.id) := fun o => (((Below.refl _ wx).alloc (Nat.le_refl _) o).cell (old_block x1)).trans x1
            have vb : ∀ o, (wx.alloc o).cell? ⟨b, off + k * 5 + 2, none⟩ = some (.int .u64 t.quota) := fun o => (((Below.refl _ wx).alloc (Nat.le_refl _) o).cell (old_block x2)).trans x2
            have wa : qW.cell? ⟨b, off + k * 5, none⟩ = some (.int .u32 t.id) := (HC.out qW qB).2.1
            have wb : qW.cell? ⟨b, off + k * 5 + 2, none⟩ = some (.int .u64 t.quota) := (HC.out qW qB).2.2.1
            clear z2 z3 hown hbx hO hP hnx qo qB qn
            go_wp2
            go_region_held3 (fun X => X.cell? ⟨b, off + k * 5, none⟩ = some (.int .u32 t.id) ∧ X.cell? ⟨b, off + k * 5 + 2, none⟩ = some (.int .u64 t.quota)) (first | exact ⟨x1, x2⟩ | exact ⟨va _, vb _⟩ | exact ⟨wa, wb⟩) (refine cstep_append_run rfl (.tmp 83) (.tmp 95) 59 59 rfl _ _ rfl rfl _ _ qr2 ?_)
            all_goals go_wp2
            all_goals (
              go_roundw
              case rel => exact ⟨k + 1, by omega, by go_num, HN.out.1, HN.out.2⟩
              case measure => simp [intOf]; omega)
    · have hlt' : ¬ ((k : Int) < n) := by omega
      have hkn : k = n := by omega
      subst hkn
      have HK : Hid (LD V0 q q (quoS ts) zU ∧ Below q w V0) := by
        rw [List.take_of_length_le (by rw [H.out.2.1]; exact Nat.le_refl _)] at hL
        exact ⟨hL, hbel⟩
      clear hL hbel
      go_wp2
      go_ret
      exact ⟨rfl, HK.out⟩
end Go.Proofs.Ytkhldjpghjmgfaa
