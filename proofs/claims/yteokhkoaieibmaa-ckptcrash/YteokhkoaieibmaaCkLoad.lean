/- What one call of ckpt's Load does. -/
import Derived.Test.YteokhkoaieibmaaCkSave
namespace Go.Proofs.Yteokhkoaieibmaa
open Go.RowKit Go.Shelf
set_option linter.unusedVariables false
set_option maxRecDepth 4000

open Classical in
noncomputable def bestStep (s : Sh) (b : Int × List Pl × Int × Int) (l : List (List Int)) (j : Int) : Int × List Pl × Int × Int := if IsK s l ∧ (b.2.2.2 ≠ 0 ∨ b.1 < allSeq l) then (allSeq l, allPs l, j, 0) else b
/-- The best one of the first zones: its number, its places, its zone, the error. -/
noncomputable def bestK (s : Sh) (zs : List Zn) : Nat → Int × List Pl × Int × Int
  | 0 => (0, [], 0, 142)
  | j + 1 => bestStep s (bestK s zs j) (zs.getD j ([], 0)).1 (j : Int)
def LoadGot (k : IntKind) (W : World) (s : Sh) (zs : List Zn) (e : Ending) (w' : World) : Prop :=
  ∃ A n C, e = .returned (.tuple #[.agg #[.int .u64 (bestK s zs 2).1, .slice A n C], .int .i64 (bestK s zs 2).2.2.1, .int k (bestK s zs 2).2.2.2]) ∧ KIn w' A n (bestK s zs 2).2.1 ∧ n ≤ C ∧ Below W.heap.size W w'
theorem best_yes {s : Sh} {zs : List Zn} {j : Nat} {z : Zn} (hz : zs[j]? = some z) (h : IsK s z.1) (h2 : (bestK s zs j).2.2.2 ≠ 0 ∨ (bestK s zs j).1 < allSeq z.1) : bestK s zs (j + 1) = (allSeq z.1, allPs z.1, (j : Int), 0) := by
  have e : zs.getD j ([], 0) = z := by simp [List.getD, hz]
  show bestStep s (bestK s zs j) (zs.getD j ([], 0)).1 (j : Int) = _
  unfold bestStep
  rw [e, if_pos ⟨h, h2⟩]
theorem best_no {s : Sh} {zs : List Zn} {j : Nat} {z : Zn} (hz : zs[j]? = some z) (h : ¬ (IsK s z.1 ∧ ((bestK s zs j).2.2.2 ≠ 0 ∨ (bestK s zs j).1 < allSeq z.1))) : bestK s zs (j + 1) = bestK s zs j := by
  have e : zs.getD j ([], 0) = z := by simp [List.getD, hz]
  show bestStep s (bestK s zs j) (zs.getD j ([], 0)).1 (j : Int) = _
  unfold bestStep
  rw [e, if_neg h]
structure LdSt (q : Nat) (W wr : World) (seq : Int) (A : Option Addr) (N C : Nat) (xs : List Pl) : Prop where
  res : Blk wr q [.int .u64 0, .slice none 0 0] 27
  best : Blk wr (q + 1) [.int .u64 seq, .slice A N C] 27
  kin : KIn wr A N xs
  cap : N ≤ C
  bel : Below W.heap.size W wr
  heap : q = W.heap.size
theorem LdSt.below {q : Nat} {W wr w' : World} {seq : Int} {A : Option Addr} {N C : Nat} {xs : List Pl} (h : LdSt q W wr seq A N C xs) (hb : Below wr.heap.size wr w') : LdSt q W w' seq A N C xs :=
  ⟨h.res.below hb h.res.lt, h.best.below hb h.best.lt, h.kin.below hb, h.cap, h.bel.trans (hb.mono h.bel.size), h.heap⟩
theorem results_cell_3 {P : Program} {fn : Func} {p u v : Tmp} {ty : TypeId} (h : fn.results = #[.cell p ty, .tmp u, .tmp v]) (tmps : Array Value) (w : World) (g : Nat) (L : List Value) (t : TypeId) (d : TypeDesc) (hp : tmps.getD p undef = .pointer (some ⟨g, 0, none⟩))
    (hb : Blk w g L t) (hu : P.underlying ty = some d) (hd : d.isRow = true) (hi : (P.info? ty).map (·.size) = some L.length) (x y : Value) (hx : tmps.getD u undef = x) (hy : tmps.getD v undef = y) : (results fn tmps).run P w = .ok (.tuple #[.agg L.toArray, x, y]) w := by
  subst hx; subst hy
  have hl := run_loadVar_row (P := P) w g t ty L.toArray (0, 0) d hb hu (by cases d <;> first | rfl | cases hd) (by simpa using hi)
  have : (results fn tmps).run P w = ((asAddr (tmps.getD p undef)).run P w).andThen fun a w₁ => ((loadVar ty a).run P w₁).andThen fun z w₂ => .ok (.tuple #[z, tmps.getD u undef, tmps.getD v undef]) w₂ := by
    simp only [results, h]
    simp [Sem.run_bind, Result.andThen]
  rw [this, hp]
  simp [asAddr, hl, Result.andThen]
set_option maxHeartbeats 4000000 in
theorem kload_of {O : Nat → Prop} {W : World} {p : Nat} {s : Sh} {zs : List Zn} (hd : Dv 104 O W p s zs) (hw : Wf s zs) :
    Calls Try.prog 22 #[.pointer (some ⟨p, 0, none⟩)] W (LoadGot .u16 W s zs) := by
  obtain ⟨q, hq⟩ : ∃ q, q = W.heap.size := ⟨_, rfl⟩
  have st0 : LdSt q W ((W.alloc (.cells #[.int .u64 0, .slice none 0 0] 27)).alloc (.cells #[.int .u64 0, .slice none 0 0] 27)) 0 none 0 0 [] := ⟨(Blk.new' hq.symm rfl).alloc _, Blk.new' (by simp [hq]) rfl, kin_none _, Nat.le_refl _, ((Below.refl _ _).alloc (Nat.le_refl _) _).alloc (by simp) _, hq⟩
  have H : Hid (Dv 104 O W p s zs ∧ Wf s zs ∧ q = W.heap.size ∧ 6 ≤ zs.length ∧ -9223372036854775808 ≤ s.z) := ⟨hd, hw, hq, by have h1 := hw.len; have h2 := hw.right.1; omega, by have h2 := hw.right.1; omega⟩
  clear hd hw
  go_enter Try.func22, Try.ntmps22
  go_upto_region 2 with fail
  rw [← hq]
  clear hq
  generalize hW0 : World.alloc (World.alloc W _) _ = W0 at st0 ⊢
  have H0 : Hid (LdSt q W W0 0 none 0 0 []) := st0
  clear st0 hW0
  go_wp2
  go_loopw [6, 7, 12] (fun va ve x wr => ∃ (j : Nat) (S Aa Er : Int) (xs : List Pl) (A : Option Addr) (N C : Nat), x = .int .i64 j ∧ va = .int .i64 Aa ∧ ve = .int .u16 Er ∧ j ≤ 2 ∧ bestK s zs j = (S, xs, Aa, Er) ∧ LdSt q W wr S A N C xs) (fun _ _ x _ => 2 - (intOf x).toNat)
  case atStart => exact ⟨0, 0, 0, 142, [], none, 0, 0, rfl, rfl, rfl, by omega, rfl, H0.out⟩
  case round =>
    obtain ⟨j, S, Aa, Er, xs, A, N, C, rfl, rfl, rfl, hj, hbest, st⟩ := hrel
    rcases Nat.lt_or_ge j 2 with hlt | hge
    · obtain ⟨z, hz⟩ : ∃ z, zs[j]? = some z := ⟨zs[j]'(by have := H.out.2.2.2.1; omega), by simp⟩
      have hj' : (j : Int) < 2 := by omega
      have hwj : IntKind.i64.wrap ((j : Int) + 1) = (j : Int) + 1 := by rw [IntKind.wrap_i64]; omega
      have HSh : Hid (Calls Try.prog 48 #[.pointer (some ⟨p, 0, none⟩)] wr fun e Y => e = .returned (.agg (shL s).toArray) ∧ Below wr.heap.size wr Y) := shape_of (kdv_under H.out.1 st.bel)
      have HHe : Hid (∀ Y, Below wr.heap.size wr Y → Calls Try.prog 49 #[.pointer (some ⟨p, 0, none⟩), .int .i64 (j : Int)] Y fun e X => ∃ av nv cv, e = .returned (.slice av nv cv) ∧ BsIn X av nv z.1 ∧ Below wr.heap.size wr X) := by
        intro Y hY
        refine (kheld_of j (kdv_under (kdv_under H.out.1 st.bel) hY) H.out.2.1 hz).mono ?_
        rintro e X ⟨v, rfl, row, bX⟩
        obtain ⟨av, cv, rfl⟩ := row.slice
        exact ⟨av, _, cv, rfl, row.bsin (H.out.2.1.short z (List.mem_of_getElem? hz)), hY.trans (bX.mono hY.size)⟩
      have HDe : Hid (∀ X av nv cv, BsIn X av nv z.1 → Below wr.heap.size wr X → Calls Try.prog 16 #[.agg (shL s).toArray, .slice av nv cv] X fun e Y => ∃ A' n' C', e = .returned (.tuple #[.agg #[.int .u64 (dkS s z.1), .slice A' n' C'], .int .u16 (dkE s z.1)]) ∧ KIn Y A' n' (dkX s z.1) ∧ n' ≤ C' ∧ Below wr.heap.size wr Y) := by
        intro X av nv cv hb hX
        refine (kdecode_of s av nv cv z.1 X H.out.2.2.2.2 hb).mono ?_
        rintro e Y ⟨A', n', C', rfl, h1, h2, h3⟩
        exact ⟨A', n', C', rfl, h1, h2, hX.trans (h3.mono hX.size)⟩
      obtain ⟨S', hS'⟩ : ∃ S', S' = dkS s z.1 := ⟨_, rfl⟩
      obtain ⟨E', hE'⟩ : ∃ E', E' = dkE s z.1 := ⟨_, rfl⟩
      rw [← hS', ← hE'] at HDe
      have HST : Hid (LdSt q W wr S A N C xs ∧ bestK s zs j = (S, xs, Aa, Er) ∧ zs[j]? = some z ∧ S' = dkS s z.1 ∧ E' = dkE s z.1) := ⟨st, hbest, hz, hS', hE'⟩
      clear st hbest hz hS' hE'
      go_upto_region 6 with (first
        | (go_at_call 16; refine (HDe.out X av nv cv hbs bX).mono ?_; rintro e Y2 ⟨A', n', C', rfl, k2, hn2, b2⟩)
        | (go_at_call 49; refine (HHe.out Y bY).mono ?_; rintro e X ⟨av, nv, cv, rfl, hbs, bX⟩)
        | (go_at_call 48; refine HSh.out.mono ?_; rintro e Y ⟨rfl, bY⟩))
      obtain ⟨q9, hq9⟩ : ∃ q9, q9 = Y2.heap.size := ⟨_, rfl⟩
      have H9 : Hid (LdSt q W (Y2.alloc (.cells #[.int .u64 S', .slice A' n' C'] 27)) S A N C xs ∧ Blk (Y2.alloc (.cells #[.int .u64 S', .slice A' n' C'] 27)) q9 [.int .u64 S', .slice A' n' C'] 27 ∧ KIn (Y2.alloc (.cells #[.int .u64 S', .slice A' n' C'] 27)) A' n' (dkX s z.1) ∧ n' ≤ C' ∧ q + 2 ≤ q9) := by
        have b3 : Below wr.heap.size wr (Y2.alloc (.cells #[.int .u64 S', .slice A' n' C'] 27)) := b2.alloc b2.size _
        refine ⟨HST.out.1.below b3, Blk.new' hq9.symm rfl, k2.alloc _, hn2, ?_⟩
        have h1 := HST.out.1.best.lt
        have h2 := b2.size
        omega
      rw [← hq9]
      clear hq9 k2 hn2 b2 hbs bX bY HSh HHe HDe
      generalize hW9 : World.alloc Y2 _ = W9 at H9 ⊢
      clear hW9
      by_cases hK : IsK s z.1
      · have hE0 : E' = 0 := by rw [HST.out.2.2.2.2]; unfold dkE; rw [if_pos hK]
        have hSS : S' = allSeq z.1 := by rw [HST.out.2.2.2.1]; unfold dkS; rw [if_pos hK]
        have hXX : dkX s z.1 = allPs z.1 := by unfold dkX; rw [if_pos hK]
        have HK : Hid (IsK s z.1 ∧ S' = allSeq z.1 ∧ dkX s z.1 = allPs z.1) := ⟨hK, hSS, hXX⟩
        clear hK hSS hXX
        subst hE0
        have c0 : W9.cell? ⟨q9, 0, none⟩ = some (.int .u64 S') := H9.out.2.1.cell 0
        have c1 : W9.cell? ⟨q9, 1, none⟩ = some (.slice A' n' C') := H9.out.2.1.cell 1
        have d0 : W9.cell? ⟨q + 1, 0, none⟩ = some (.int .u64 S) := H9.out.1.best.cell 0
        have d1 : W9.cell? ⟨q + 1, 1, none⟩ = some (.slice A N C) := H9.out.1.best.cell 1
        have z0 := H9.out.1.best.frozen 0
        have z1 := H9.out.1.best.frozen 1
        have hqn : q9 ≠ q + 1 := by have := H9.out.2.2.2.2; omega
        have HT : Hid ((Er ≠ 0 ∨ S < S') → LdSt q W ((W9.setCell ⟨q + 1, 0, none⟩ (.int .u64 S')).setCell ⟨q + 1, 1, none⟩ (.slice A' n' C')) S' A' n' C' (allPs z.1) ∧ bestK s zs (j + 1) = (S', allPs z.1, (j : Int), 0)) := by
          intro h
          have hqw := H.out.2.2.1
          have e1 : Blk (W9.setCell ⟨q + 1, 0, none⟩ (.int .u64 S')) (q + 1) [.int .u64 S', .slice A N C] 27 := H9.out.1.best.set 0 _
          refine ⟨⟨(H9.out.1.res.set_other (by show q ≠ q + 1; omega) _).set_other (by show q ≠ q + 1; omega) _, e1.set 1 _, ?_, H9.out.2.2.2.1, (H9.out.1.bel.setCell (by show W.heap.size ≤ q + 1; omega) _).setCell (by show W.heap.size ≤ q + 1; omega) _, hqw⟩, ?_⟩
          · rw [← HK.out.2.2]
            exact (H9.out.2.2.1.set (st_not H9.out.1.best) 0 _).set (st_not e1) 1 _
          · rw [best_yes HST.out.2.2.1 HK.out.1 (by rw [HST.out.2.1, ← HK.out.2.1]; exact h), ← HK.out.2.1]
        have HU : Hid (¬ (Er ≠ 0 ∨ S < S') → bestK s zs (j + 1) = (S, xs, Aa, Er)) := by
          intro h
          rw [best_no HST.out.2.2.1 (by rw [HST.out.2.1, ← HK.out.2.1]; exact fun h' => h h'.2), HST.out.2.1]
        by_cases hEr : Er = 0
        · subst hEr
          by_cases hSl : S < S'
          · have hSl' : decide (S < S') = true := by simp [hSl]
            have HR := HT.out (.inr hSl)
            have HR2 : Hid (LdSt q W ((W9.setCell ⟨q + 1, 0, none⟩ (.int .u64 S')).setCell ⟨q + 1, 1, none⟩ (.slice A' n' C')) S' A' n' C' (allPs z.1) ∧ bestK s zs (j + 1) = (S', allPs z.1, (j : Int), 0)) := HR
            clear HR hSl HT HU
            go_wp2
            go_roundw
            case rel => exact ⟨j + 1, S', j, 0, allPs z.1, A', n', C', by simp, rfl, rfl, by omega, HR2.out.2, HR2.out.1⟩
            case measure => simp [intOf]; omega
          · have hSl' : decide (S < S') = false := by simp; omega
            have HR2 : Hid (LdSt q W W9 S A N C xs ∧ bestK s zs (j + 1) = (S, xs, Aa, 0)) := ⟨H9.out.1, HU.out (by simp; omega)⟩
            clear HT HU hSl
            go_wp2
            go_roundw
            case rel => exact ⟨j + 1, S, Aa, 0, xs, A, N, C, by simp, rfl, rfl, by omega, HR2.out.2, HR2.out.1⟩
            case measure => simp [intOf]; omega
        · have hErb : (Er != 0) = true := by simp [hEr]
          have HR := HT.out (.inl hEr)
          have HR2 : Hid (LdSt q W ((W9.setCell ⟨q + 1, 0, none⟩ (.int .u64 S')).setCell ⟨q + 1, 1, none⟩ (.slice A' n' C')) S' A' n' C' (allPs z.1) ∧ bestK s zs (j + 1) = (S', allPs z.1, (j : Int), 0)) := HR
          clear HR hEr HT HU
          go_wp2
          go_roundw
          case rel => exact ⟨j + 1, S', j, 0, allPs z.1, A', n', C', by simp, rfl, rfl, by omega, HR2.out.2, HR2.out.1⟩
          case measure => simp [intOf]; omega
      · have hE1 : E' = 141 := by rw [HST.out.2.2.2.2]; unfold dkE; rw [if_neg hK]
        have HR2 : Hid (LdSt q W W9 S A N C xs ∧ bestK s zs (j + 1) = (S, xs, Aa, Er)) := ⟨H9.out.1, by rw [best_no HST.out.2.2.1 (fun h => hK h.1), HST.out.2.1]⟩
        clear hK
        subst hE1
        go_wp2
        go_roundw
        case rel => exact ⟨j + 1, S, Aa, Er, xs, A, N, C, by simp, rfl, rfl, by omega, HR2.out.2, HR2.out.1⟩
        case measure => simp [intOf]; omega
    · obtain rfl : j = 2 := by omega
      have k0 : wr.cell? ⟨q + 1, 0, none⟩ = some (.int .u64 S) := st.best.cell 0
      have k1 : wr.cell? ⟨q + 1, 1, none⟩ = some (.slice A N C) := st.best.cell 1
      have d0 : wr.cell? ⟨q, 0, none⟩ = some (.int .u64 0) := st.res.cell 0
      have d1 : wr.cell? ⟨q, 1, none⟩ = some (.slice none 0 0) := st.res.cell 1
      have z0 := st.res.frozen 0
      have z1 := st.res.frozen 1
      have HZ : Hid (Blk ((wr.setCell ⟨q, 0, none⟩ (.int .u64 S)).setCell ⟨q, 1, none⟩ (.slice A N C)) q [.int .u64 S, .slice A N C] 27 ∧ LoadGot .u16 W s zs (.returned (.tuple #[.agg #[.int .u64 S, .slice A N C], .int .i64 Aa, .int .u16 Er])) ((wr.setCell ⟨q, 0, none⟩ (.int .u64 S)).setCell ⟨q, 1, none⟩ (.slice A N C))) := by
        have e1 : Blk (wr.setCell ⟨q, 0, none⟩ (.int .u64 S)) q [.int .u64 S, .slice none 0 0] 27 := st.res.set 0 _
        have hqw := H.out.2.2.1
        refine ⟨e1.set 1 _, A, N, C, by rw [hbest], by rw [hbest]; exact (st.kin.set (st_not st.res) 0 _).set (st_not e1) 1 _, st.cap, (st.bel.setCell (by show W.heap.size ≤ q; omega) _).setCell (by show W.heap.size ≤ q; omega) _⟩
      clear st hbest
      go_wp2
      exact bodyPost_ret (results_cell_3 (p := 2) (u := 3) (v := 4) (ty := 27) rfl _ _ q _ _ _ rfl HZ.out.1 Try.underlying27 rfl Try.info_state _ _ rfl rfl) rfl HZ.out.2
end Go.Proofs.Yteokhkoaieibmaa
