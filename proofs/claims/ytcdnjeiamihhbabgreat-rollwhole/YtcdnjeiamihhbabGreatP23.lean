/- P23 -/
import Derived.Deep.DeepCutAuto
import Derived.Test.YtcdnjeiamihhbabGreatP22
set_option linter.unusedVariables false
set_option maxRecDepth 4000
namespace Go.Proofs.YtcdnjeiamihhbabGreat
open Go.RowKit Go.Shelf
open Classical in
noncomputable def bestStep (s : Sh) (b : Int × List Pl × Int × Int) (l : List (List Int)) (j : Int) : Int × List Pl × Int × Int := if IsK s l ∧ (b.2.2.2 ≠ 0 ∨ b.1 < allSeq l) then (allSeq l, allPs l, j, 0) else b
/-- The best one of the first zones: its number, its places, its zone, the error. -/
noncomputable def bestK (s : Sh) (zs : List Zn) : Nat → Int × List Pl × Int × Int
 | 0 => (0, [], 0, 142)
 | j + 1 => bestStep s (bestK s zs j) (zs.getD j ([], 0)).1 (j : Int)
def LoadGot (k : IntKind) (W : World) (s : Sh) (zs : List Zn) (e : Ending) (w' : World) : Prop :=
 ∃ A n C, e = .returned (.tuple #[.agg #[.int .u64 (bestK s zs 2).1, .slice A n C], .int .i64 (bestK s zs 2).2.2.1, .int k (bestK s zs 2).2.2.2]) ∧ KIn w' A n (bestK s zs 2).2.1 ∧ n ≤ C ∧ Below W.heap.size W w'
theorem best_yes {s : Sh} {zs : List Zn} {j : Nat} {z : Zn} (hz : zs[j]? = some z) (h : IsK s z.1) (h2 : (bestK s zs j).2.2.2 ≠ 0 ∨ (bestK s zs j).1 < allSeq z.1) : bestK s zs (j + 1) = (allSeq z.1, allPs z.1, (j : Int), 0) := by
 have e : zs.getD j ([], 0) = z := by simp [List.getD, hz]
 show bestStep s (bestK s zs j) (zs.getD j ([], 0)).1 (j : Int) = _
 unfold bestStep
 rw [e, if_pos ⟨h, h2⟩]
theorem best_no {s : Sh} {zs : List Zn} {j : Nat} {z : Zn} (hz : zs[j]? = some z) (h : ¬ (IsK s z.1 ∧ ((bestK s zs j).2.2.2 ≠ 0 ∨ (bestK s zs j).1 < allSeq z.1))) : bestK s zs (j + 1) = bestK s zs j := by
 have e : zs.getD j ([], 0) = z := by simp [List.getD, hz]
 show bestStep s (bestK s zs j) (zs.getD j ([], 0)).1 (j : Int) = _
 unfold bestStep
 rw [e, if_neg h]
structure LdSt (q : Nat) (W wr : World) (seq : Int) (A : Option Addr) (N C : Nat) (xs : List Pl) : Prop where
 res : Blk wr q [.int .u64 0, .slice none 0 0] 78
 best : Blk wr (q + 1) [.int .u64 seq, .slice A N C] 78
 kin : KIn wr A N xs
 cap : N ≤ C
 bel : Below W.heap.size W wr
 heap : q = W.heap.size
theorem LdSt.below {q : Nat} {W wr w' : World} {seq : Int} {A : Option Addr} {N C : Nat} {xs : List Pl} (h : LdSt q W wr seq A N C xs) (hb : Below wr.heap.size wr w') : LdSt q W w' seq A N C xs :=
 ⟨h.res.below hb h.res.lt, h.best.below hb h.best.lt, h.kin.below hb, h.cap, h.bel.trans (hb.mono h.bel.size), h.heap⟩
theorem results_cell_3 {P : Program} {fn : Func} {p u v : Tmp} {ty : TypeId} (h : fn.results = #[.cell p ty, .tmp u, .tmp v]) (tmps : Array Value) (w : World) (g : Nat) (L : List Value) (t : TypeId) (d : TypeDesc) (hp : tmps.getD p undef = .pointer (some ⟨g, 0, none⟩))
  (hb : Blk w g L t) (hu : P.underlying ty = some d) (hd : d.isRow = true) (hi : (P.info? ty).map (·.size) = some L.length) (x y : Value) (hx : tmps.getD u undef = x) (hy : tmps.getD v undef = y) : (results fn tmps).run P w = .ok (.tuple #[.agg L.toArray, x, y]) w := by
 subst hx; subst hy
 have hl := run_loadVar_row (P := P) w g t ty L.toArray (0, 0) d hb hu (by cases d <;> first | rfl | cases hd) (by simpa using hi)
 have : (results fn tmps).run P w = ((asAddr (tmps.getD p undef)).run P w).andThen fun a w₁ => ((loadVar ty a).run P w₁).andThen fun z w₂ => .ok (.tuple #[z, tmps.getD u undef, tmps.getD v undef]) w₂ := by
  simp only [results, h]
  simp [Sem.run_bind, Result.andThen]
 rw [this, hp]
 simp [asAddr, hl, Result.andThen]
set_option maxHeartbeats 4000000 in
theorem kload_of {O : Nat → Prop} {W : World} {p : Nat} {s : Sh} {zs : List Zn} (hd : Dv 105 O W p s zs) (hw : Wf s zs) :
  Calls Tryz.prog 47 #[.pointer (some ⟨p, 0, none⟩)] W (LoadGot .u16 W s zs) := by
 obtain ⟨q, hq⟩ : ∃ q, q = W.heap.size := ⟨_, rfl⟩
 have st0 : LdSt q W ((W.alloc (.cells #[.int .u64 0, .slice none 0 0] 78)).alloc (.cells #[.int .u64 0, .slice none 0 0] 78)) 0 none 0 0 [] := ⟨(Blk.new' hq.symm rfl).alloc _, Blk.new' (by simp [hq]) rfl, kin_none _, Nat.le_refl _, ((Below.refl _ _).alloc (Nat.le_refl _) _).alloc (by simp) _, hq⟩
 have H : Hid (Dv 105 O W p s zs ∧ Wf s zs ∧ q = W.heap.size ∧ 6 ≤ zs.length ∧ -9223372036854775808 ≤ s.z) := ⟨hd, hw, hq, by have h1 := hw.len; have h2 := hw.right.1; omega, by have h2 := hw.right.1; omega⟩
 clear hd hw
 go_enter Tryz.func47, Tryz.ntmps47
 go_upto_region 2 with fail
 rw [← hq]
 clear hq
 generalize hW0 : World.alloc (World.alloc W _) _ = W0 at st0 ⊢
 have H0 : Hid (LdSt q W W0 0 none 0 0 []) := st0
 clear st0 hW0
 go_wp2
 go_loopw [6, 7, 12] (fun va ve x wr => ∃ (j : Nat) (S Aa Er : Int) (xs : List Pl) (A : Option Addr) (N C : Nat), x = .int .i64 j ∧ va = .int .i64 Aa ∧ ve = .int .u16 Er ∧ j ≤ 2 ∧ bestK s zs j = (S, xs, Aa, Er) ∧ LdSt q W wr S A N C xs) (fun _ _ x _ => 2 - (intOf x).toNat)
 case atStart => exact ⟨0, 0, 0, 142, [], none, 0, 0, rfl, rfl, rfl, by omega, rfl, H0.out⟩
 case round =>
  obtain ⟨j, S, Aa, Er, xs, A, N, C, rfl, rfl, rfl, hj, hbest, st⟩ := hrel
  rcases Nat.lt_or_ge j 2 with hlt | hge
  ·obtain ⟨z, hz⟩ : ∃ z, zs[j]? = some z := ⟨zs[j]'(by have := H.out.2.2.2.1; omega), by simp⟩
   have hj' : (j : Int) < 2 := by omega
   have hwj : IntKind.i64.wrap ((j : Int) + 1) = (j : Int) + 1 := by rw [IntKind.wrap_i64]; omega
   have HSh : Hid (Calls Tryz.prog 28 #[.pointer (some ⟨p, 0, none⟩)] wr fun e Y => e = .returned (.agg (shL s).toArray) ∧ Below wr.heap.size wr Y) := shape_of (kdv_under H.out.1 st.bel)
   have HHe : Hid (∀ Y, Below wr.heap.size wr Y → Calls Tryz.prog 92 #[.pointer (some ⟨p, 0, none⟩), .int .i64 (j : Int)] Y fun e X => ∃ av nv cv, e = .returned (.slice av nv cv) ∧ BsIn X av nv z.1 ∧ Below wr.heap.size wr X) := by
    intro Y hY
    refine (kheld_of j (kdv_under (kdv_under H.out.1 st.bel) hY) H.out.2.1 hz).mono ?_
    rintro e X ⟨v, rfl, row, bX⟩
    obtain ⟨av, cv, rfl⟩ := row.slice
    exact ⟨av, _, cv, rfl, row.bsin (H.out.2.1.short z (List.mem_of_getElem? hz)), hY.trans (bX.mono hY.size)⟩
   have HDe : Hid (∀ X av nv cv, BsIn X av nv z.1 → Below wr.heap.size wr X → Calls Tryz.prog 91 #[.agg (shL s).toArray, .slice av nv cv] X fun e Y => ∃ A' n' C', e = .returned (.tuple #[.agg #[.int .u64 (dkS s z.1), .slice A' n' C'], .int .u16 (dkE s z.1)]) ∧ KIn Y A' n' (dkX s z.1) ∧ n' ≤ C' ∧ Below wr.heap.size wr Y) := by
    intro X av nv cv hb hX
    refine (kdecode_of s av nv cv z.1 X H.out.2.2.2.2 hb).mono ?_
    rintro e Y ⟨A', n', C', rfl, h1, h2, h3⟩
    exact ⟨A', n', C', rfl, h1, h2, hX.trans (h3.mono hX.size)⟩
   obtain ⟨S', hS'⟩ : ∃ S', S' = dkS s z.1 := ⟨_, rfl⟩
   obtain ⟨E', hE'⟩ : ∃ E', E' = dkE s z.1 := ⟨_, rfl⟩
   rw [← hS', ← hE'] at HDe
   have HST : Hid (LdSt q W wr S A N C xs ∧ bestK s zs j = (S, xs, Aa, Er) ∧ zs[j]? = some z ∧ S' = dkS s z.1 ∧ E' = dkE s z.1) := ⟨st, hbest, hz, hS', hE'⟩
   clear st hbest hz hS' hE'
   go_upto_region 6 with (first
    | (go_at_call 91; refine (HDe.out X av nv cv hbs bX).mono ?_; rintro e Y2 ⟨A', n', C', rfl, k2, hn2, b2⟩)
    | (go_at_call 92; refine (HHe.out Y bY).mono ?_; rintro e X ⟨av, nv, cv, rfl, hbs, bX⟩)
    | (go_at_call 28; refine HSh.out.mono ?_; rintro e Y ⟨rfl, bY⟩))
   obtain ⟨q9, hq9⟩ : ∃ q9, q9 = Y2.heap.size := ⟨_, rfl⟩
   have H9 : Hid (LdSt q W (Y2.alloc (.cells #[.int .u64 S', .slice A' n' C'] 78)) S A N C xs ∧ Blk (Y2.alloc (.cells #[.int .u64 S', .slice A' n' C'] 78)) q9 [.int .u64 S', .slice A' n' C'] 78 ∧ KIn (Y2.alloc (.cells #[.int .u64 S', .slice A' n' C'] 78)) A' n' (dkX s z.1) ∧ n' ≤ C' ∧ q + 2 ≤ q9) := by
    have b3 : Below wr.heap.size wr (Y2.alloc (.cells #[.int .u64 S', .slice A' n' C'] 78)) := b2.alloc b2.size _
    refine ⟨HST.out.1.below b3, Blk.new' hq9.symm rfl, k2.alloc _, hn2, ?_⟩
    have h1 := HST.out.1.best.lt
    have h2 := b2.size
    omega
   rw [← hq9]
   clear hq9 k2 hn2 b2 hbs bX bY HSh HHe HDe
   generalize hW9 : World.alloc Y2 _ = W9 at H9 ⊢
   clear hW9
   by_cases hK : IsK s z.1
   ·have hE0 : E' = 0 := by rw [HST.out.2.2.2.2]; unfold dkE; rw [if_pos hK]
    have hSS : S' = allSeq z.1 := by rw [HST.out.2.2.2.1]; unfold dkS; rw [if_pos hK]
    have hXX : dkX s z.1 = allPs z.1 := by unfold dkX; rw [if_pos hK]
    have HK : Hid (IsK s z.1 ∧ S' = allSeq z.1 ∧ dkX s z.1 = allPs z.1) := ⟨hK, hSS, hXX⟩
    clear hK hSS hXX
    subst hE0
    have c0 : W9.cell? ⟨q9, 0, none⟩ = some (.int .u64 S') := H9.out.2.1.cell 0
    have c1 : W9.cell? ⟨q9, 1, none⟩ = some (.slice A' n' C') := H9.out.2.1.cell 1
    have d0 : W9.cell? ⟨q + 1, 0, none⟩ = some (.int .u64 S) := H9.out.1.best.cell 0
    have d1 : W9.cell? ⟨q + 1, 1, none⟩ = some (.slice A N C) := H9.out.1.best.cell 1
    have z0 := H9.out.1.best.frozen 0
    have z1 := H9.out.1.best.frozen 1
    have hqn : q9 ≠ q + 1 := by have := H9.out.2.2.2.2; omega
    have HT : Hid ((Er ≠ 0 ∨ S < S') → LdSt q W ((W9.setCell ⟨q + 1, 0, none⟩ (.int .u64 S')).setCell ⟨q + 1, 1, none⟩ (.slice A' n' C')) S' A' n' C' (allPs z.1) ∧ bestK s zs (j + 1) = (S', allPs z.1, (j : Int), 0)) := by
     intro h
     have hqw := H.out.2.2.1
     have e1 : Blk (W9.setCell ⟨q + 1, 0, none⟩ (.int .u64 S')) (q + 1) [.int .u64 S', .slice A N C] 78 := H9.out.1.best.set 0 _
     refine ⟨⟨(H9.out.1.res.set_other (by show q ≠ q + 1; omega) _).set_other (by show q ≠ q + 1; omega) _, e1.set 1 _, ?_, H9.out.2.2.2.1, (H9.out.1.bel.setCell (by show W.heap.size ≤ q + 1; omega) _).setCell (by show W.heap.size ≤ q + 1; omega) _, hqw⟩, ?_⟩
     ·rw [← HK.out.2.2]
      exact (H9.out.2.2.1.set (st_not H9.out.1.best) 0 _).set (st_not e1) 1 _
     ·rw [best_yes HST.out.2.2.1 HK.out.1 (by rw [HST.out.2.1, ← HK.out.2.1]; exact h), ← HK.out.2.1]
    have HU : Hid (¬ (Er ≠ 0 ∨ S < S') → bestK s zs (j + 1) = (S, xs, Aa, Er)) := by
     intro h
     rw [best_no HST.out.2.2.1 (by rw [HST.out.2.1, ← HK.out.2.1]; exact fun h' => h h'.2), HST.out.2.1]
    by_cases hEr : Er = 0
    ·subst hEr
     by_cases hSl : S < S'
     ·have hSl' : decide (S < S') = true := by simp [hSl]
      have HR := HT.out (.inr hSl)
      have HR2 : Hid (LdSt q W ((W9.setCell ⟨q + 1, 0, none⟩ (.int .u64 S')).setCell ⟨q + 1, 1, none⟩ (.slice A' n' C')) S' A' n' C' (allPs z.1) ∧ bestK s zs (j + 1) = (S', allPs z.1, (j : Int), 0)) := HR
      clear HR hSl HT HU
      go_wp2
      go_roundw
      case rel => exact ⟨j + 1, S', j, 0, allPs z.1, A', n', C', by simp, rfl, rfl, by omega, HR2.out.2, HR2.out.1⟩
      case measure => simp [intOf]; omega
     ·have hSl' : decide (S < S') = false := by simp; omega
      have HR2 : Hid (LdSt q W W9 S A N C xs ∧ bestK s zs (j + 1) = (S, xs, Aa, 0)) := ⟨H9.out.1, HU.out (by simp; omega)⟩
      clear HT HU hSl
      go_wp2
      go_roundw
      case rel => exact ⟨j + 1, S, Aa, 0, xs, A, N, C, by simp, rfl, rfl, by omega, HR2.out.2, HR2.out.1⟩
      case measure => simp [intOf]; omega
    ·have hErb : (Er != 0) = true := by simp [hEr]
     have HR := HT.out (.inl hEr)
     have HR2 : Hid (LdSt q W ((W9.setCell ⟨q + 1, 0, none⟩ (.int .u64 S')).setCell ⟨q + 1, 1, none⟩ (.slice A' n' C')) S' A' n' C' (allPs z.1) ∧ bestK s zs (j + 1) = (S', allPs z.1, (j : Int), 0)) := HR
     clear HR hEr HT HU
     go_wp2
     go_roundw
     case rel => exact ⟨j + 1, S', j, 0, allPs z.1, A', n', C', by simp, rfl, rfl, by omega, HR2.out.2, HR2.out.1⟩
     case measure => simp [intOf]; omega
   ·have hE1 : E' = 141 := by rw [HST.out.2.2.2.2]; unfold dkE; rw [if_neg hK]
    have HR2 : Hid (LdSt q W W9 S A N C xs ∧ bestK s zs (j + 1) = (S, xs, Aa, Er)) := ⟨H9.out.1, by rw [best_no HST.out.2.2.1 (fun h => hK h.1), HST.out.2.1]⟩
    clear hK
    subst hE1
    go_wp2
    go_roundw
    case rel => exact ⟨j + 1, S, Aa, Er, xs, A, N, C, by simp, rfl, rfl, by omega, HR2.out.2, HR2.out.1⟩
    case measure => simp [intOf]; omega
  ·obtain rfl : j = 2 := by omega
   have k0 : wr.cell? ⟨q + 1, 0, none⟩ = some (.int .u64 S) := st.best.cell 0
   have k1 : wr.cell? ⟨q + 1, 1, none⟩ = some (.slice A N C) := st.best.cell 1
   have d0 : wr.cell? ⟨q, 0, none⟩ = some (.int .u64 0) := st.res.cell 0
   have d1 : wr.cell? ⟨q, 1, none⟩ = some (.slice none 0 0) := st.res.cell 1
   have z0 := st.res.frozen 0
   have z1 := st.res.frozen 1
   have HZ : Hid (Blk ((wr.setCell ⟨q, 0, none⟩ (.int .u64 S)).setCell ⟨q, 1, none⟩ (.slice A N C)) q [.int .u64 S, .slice A N C] 78 ∧ LoadGot .u16 W s zs (.returned (.tuple #[.agg #[.int .u64 S, .slice A N C], .int .i64 Aa, .int .u16 Er])) ((wr.setCell ⟨q, 0, none⟩ (.int .u64 S)).setCell ⟨q, 1, none⟩ (.slice A N C))) := by
    have e1 : Blk (wr.setCell ⟨q, 0, none⟩ (.int .u64 S)) q [.int .u64 S, .slice none 0 0] 78 := st.res.set 0 _
    have hqw := H.out.2.2.1
    refine ⟨e1.set 1 _, A, N, C, by rw [hbest], by rw [hbest]; exact (st.kin.set (st_not st.res) 0 _).set (st_not e1) 1 _, st.cap, (st.bel.setCell (by show W.heap.size ≤ q; omega) _).setCell (by show W.heap.size ≤ q; omega) _⟩
   clear st hbest
   go_wp2
   exact bodyPost_ret (results_cell_3 (p := 2) (u := 3) (v := 4) (ty := 78) rfl _ _ q _ _ _ rfl HZ.out.1 Tryz.underlying78 rfl Tryz.info_state _ _ rfl rfl) rfl HZ.out.2
end Go.Proofs.YtcdnjeiamihhbabGreat
namespace Go.Proofs.YtcdnjeiamihhbabGreat
open Go.RowKit


section
theorem rows_apart {w : World} {b1 b2 s1 s2 : Nat} {t e : TypeId} {v u : Value} {n m : Nat} {xs ys : List Value} (h : w.ownsRow b1 t s1 v n xs) (k : w.ownsRow b2 e s2 u m ys) (hte : t ≠ e) : v.ownBlock = none ∨ v.ownBlock ≠ u.ownBlock := by
 rcases h.2 with ⟨hv, _⟩ | ⟨g, cap, cur, hv, hb, hg, _⟩
 ·left; rw [hv]; rfl
 ·right
  rcases k.2 with ⟨hu, _⟩ | ⟨g', cap', cur', hu, hb', hg', _⟩
  ·rw [hv, hu]; simp [Value.ownBlock]
  ·rw [hv, hu]
   intro e1
   simp only [Value.ownBlock, Option.some.injEq] at e1
   subst e1
   rw [hg] at hg'
   cases hg'
   exact hte rfl
/-! ### The state between two places -/
section
variable {q : Nat} {w wr w' : World} {s : Sh} {seq : Int} {A : Option Addr} {N C : Nat} {xs : List Pl} {g Ch : Nat} {hs : List Int} {R : Option Addr} {m F : Nat} {ys : List Int}
end
end
end Go.Proofs.YtcdnjeiamihhbabGreat
namespace Go.Proofs.YtcdnjeiamihhbabGreat
open Go.RowKit Go.Shelf

section
section
variable {O : Nat → Prop} {W : World} {p : Nat} {s : Sh} {zs : List Zn}
end
end
section
section
variable {O : Nat → Prop} {W : World} {p : Nat} {s : Sh} {zs : List Zn}
end
end
/-- A block of S bytes with a front. -/
def blockB (S : Nat) (F : List Int) : List Int := F.take S ++ List.replicate (S - F.length) 0
theorem blockB_length (S : Nat) (F : List Int) : (blockB S F).length = S := by simp [blockB]; omega
def blockTo (S : Nat) (F : List Int) (j : Nat) : List Int := F.take j ++ List.replicate (S - j) 0
theorem blockTo_length {S : Nat} {F : List Int} {j : Nat} (h : j ≤ S) (h' : j ≤ F.length) : (blockTo S F j).length = S := by simp [blockTo]; omega
theorem blockTo_next {S : Nat} {F : List Int} {j : Nat} {x : Int} (h : j < S) (hx : F[j]? = some x) : (blockTo S F j).set j x = blockTo S F (j + 1) := by
 have hj := (List.getElem?_eq_some_iff.1 hx).1
 unfold blockTo
 rw [take_snoc hx, List.set_append_right _ _ (by simp; omega)]
 have e : j - (List.take j F).length = 0 := by simp; omega
 rw [e]
 obtain ⟨d, hd⟩ : ∃ d, S - j = d + 1 := ⟨S - j - 1, by omega⟩
 have e2 : S - (j + 1) = d := by omega
 rw [hd, e2, List.replicate_succ]
 simp
theorem blockTo_all {S : Nat} {F : List Int} {j : Nat} (h : j ≤ S) (h' : j ≤ F.length) (he : j = S ∨ j = F.length) : blockTo S F j = blockB S F := by
 unfold blockTo blockB
 rcases he with rfl | rfl
 ·have : j - F.length = 0 := by omega
  rw [this]; simp
 ·rw [List.take_of_length_le (Nat.le_refl _), List.take_of_length_le h]
theorem blockB_fits {S : Nat} {F : List Int} (h : ∀ z ∈ F, Fits8 z) : ∀ z ∈ blockB S F, Fits8 z := by
 intro z hz
 simp only [blockB, List.mem_append, List.mem_replicate] at hz
 rcases hz with hz | ⟨_, rfl⟩
 ·exact h z (List.mem_of_mem_take hz)
 ·unfold Fits8; omega
end Go.Proofs.YtcdnjeiamihhbabGreat
namespace Go.Proofs.YtcdnjeiamihhbabGreat
open Go.RowKit
theorem room_none {b : Int} (h : ¬ b ∈ PowR) : roomI b = 0 := by unfold roomI; rw [if_neg h]
set_option maxHeartbeats 1000000 in
theorem room_of (b : Int) (w : World) : Calls Tryz.prog 32 #[.int .i64 b] w fun e w' => e = .returned (.int .i64 (roomI b)) ∧ w' = w := by
 obtain ⟨R, hR⟩ : ∃ R, R = roomI b := ⟨_, rfl⟩
 rw [← hR]
 by_cases h1 : b < 64
 ·have hf : R = 0 := by rw [hR]; exact room_none (fun h => by have := pow_bounds h; omega)
  clear hR
  subst hf
  go_enter Tryz.func32, Tryz.ntmps32
  go_wp2
  go_ret
  exact ⟨rfl, rfl⟩
 ·have h1' : 64 ≤ b := by omega
  by_cases h2 : 4096 < b
  ·have hf : R = 0 := by rw [hR]; exact room_none (fun h => by have := pow_bounds h; omega)
   clear hR
   subst hf
   clear h1
   go_enter Tryz.func32, Tryz.ntmps32
   go_wp2
   go_ret
   exact ⟨rfl, rfl⟩
  ·have h2' : b ≤ 4096 := by omega
   clear h1 h2
   have hw : IntKind.i64.wrap (b - 1) = b - 1 := by rw [IntKind.wrap_i64]; omega
   have hw2 : IntKind.i64.wrap (b - 18) = b - 18 := by rw [IntKind.wrap_i64]; omega
   have hw3 : IntKind.i64.wrap (b - 18 - 1) = b - 18 - 1 := by rw [IntKind.wrap_i64]; omega
   by_cases hp : b ∈ PowR
   ·have hand := (and_ofR h1' h2').2 hp
    have hf : R = (b - 18 - 1) / 19 := by rw [hR]; unfold roomI; rw [if_pos hp]; congr 1; omega
    clear hR hp
    subst hf
    go_enter Tryz.func32, Tryz.ntmps32
    go_wp2
    go_ret
    exact ⟨rfl, rfl⟩
   ·have hand : (bits BinOp.and IntKind.i64 b (b - 1) != 0) = true := by simp; exact fun h => hp ((and_ofR h1' h2').1 h)
    have hf : R = 0 := by rw [hR]; exact room_none hp
    clear hR hp
    subst hf
    go_enter Tryz.func32, Tryz.ntmps32
    go_wp2
    go_ret
    exact ⟨rfl, rfl⟩
def itL (x : It) : List Value := [.int .u32 x.t, .int .u64 x.b, .int .u8 x.k, .int .u32 x.s, .int .u16 x.e]
set_option maxHeartbeats 1000000 in
theorem cright_of (x : It) (w : World) : Calls Tryz.prog 167 #[.agg (itL x).toArray] w fun e w' => e = .returned (.bool (decide (RightI x))) ∧ Below w.heap.size w w' := by
 obtain ⟨t, b, k, s, e⟩ := x
 obtain ⟨B, hB⟩ : ∃ B, B = decide (RightI ⟨t, b, k, s, e⟩) := ⟨_, rfl⟩
 rw [← hB]
 have bw : Hid (∀ o, Below w.heap.size w (w.alloc o)) := fun o => (Below.refl _ _).alloc (Nat.le_refl _) o
 simp only [itL]
 by_cases h1 : k = 1
 ·subst h1
  have hf : B = decide (e ≤ 4096) := by rw [hB]; simp [RightI]
  clear hB
  subst hf
  go_enter Tryz.func167, Tryz.ntmps167
  go_wp2
  go_ret
  exact ⟨rfl, bw.out _⟩
 ·by_cases h2 : k = 2
  ·subst h2
   clear h1
   by_cases h3 : s = 0
   ·subst h3
    have hf : B = (e == 0) := by rw [hB]; simp [RightI]; by_cases h : e = 0 <;> simp [h]
    clear hB
    subst hf
    go_enter Tryz.func167, Tryz.ntmps167
    go_wp2
    go_ret
    exact ⟨rfl, bw.out _⟩
   ·have hf : B = false := by rw [hB]; simp [RightI, h3]
    clear hB
    subst hf
    go_enter Tryz.func167, Tryz.ntmps167
    go_wp2
    go_ret
    exact ⟨rfl, bw.out _⟩
  ·have hf : B = false := by rw [hB]; simp [RightI, h1, h2]
   clear hB
   subst hf
   go_enter Tryz.func167, Tryz.ntmps167
   go_wp2
   go_ret
   exact ⟨rfl, bw.out _⟩
theorem headW_of (w : World) : Calls Tryz.prog 166 #[] w fun e w' => e = .returned (.slice (some ⟨w.heap.size, 0, none⟩) 4 4) ∧ w' = w.alloc (.cells #[.int .i64 4, .int .i64 4, .int .i64 8, .int .i64 2] 3) := by
 go_enter Tryz.func166, Tryz.ntmps166
 go_wp2
 go_ret
 exact ⟨rfl, rfl⟩
theorem itemW_of (w : World) : Calls Tryz.prog 168 #[] w fun e w' => e = .returned (.slice (some ⟨w.heap.size, 0, none⟩) 5 5) ∧ w' = w.alloc (.cells #[.int .i64 4, .int .i64 8, .int .i64 1, .int .i64 4, .int .i64 2] 3) := by
 go_enter Tryz.func168, Tryz.ntmps168
 go_wp2
 go_ret
 exact ⟨rfl, rfl⟩
theorem nin_hd {w : World} {g : Nat} (h : w.heap.size = g) : NIn .i64 (w.alloc (.cells #[.int .i64 4, .int .i64 4, .int .i64 8, .int .i64 2] 3)) (some ⟨g, 0, none⟩) 4 hdW := nin_lit 3 h rfl rfl rfl (by omega)
theorem nin_it {w : World} {g : Nat} (h : w.heap.size = g) : NIn .i64 (w.alloc (.cells #[.int .i64 4, .int .i64 8, .int .i64 1, .int .i64 4, .int .i64 2] 3)) (some ⟨g, 0, none⟩) 5 itW := nin_lit 3 h rfl rfl rfl (by omega)
theorem hdV_fits {s n : Int} (hs : FitsU s) (hn : FitsU n) : ∀ z ∈ hdV s n, FitsU z := by
 intro z hz
 simp only [hdV, List.mem_cons, List.not_mem_nil, or_false] at hz
 rcases hz with rfl | rfl | rfl | rfl
 ·unfold FitsU; omega
 ·unfold FitsU; omega
 ·exact hs
 ·exact hn
theorem itV_fits {x : It} (h : x.Fits) : ∀ z ∈ itV x, FitsU z := by
 obtain ⟨h1, h2, h3, h4, h5⟩ := h
 unfold Fits32 at h1 h4
 unfold FitsU at h2
 unfold Fits8 at h3
 unfold Fits16 at h5
 intro z hz
 simp only [itV, List.mem_cons, List.not_mem_nil, or_false] at hz
 unfold FitsU
 rcases hz with rfl | rfl | rfl | rfl | rfl <;> omega
set_option maxHeartbeats 1000000 in
theorem ends_of (a : Option Addr) (n c : Nat) (zs : List Int) (w : World) (h : BIn w a n zs) : Calls Tryz.prog 40 #[.slice a n c] w fun e w' => e = .returned (.int .i64 (endsN zs : Nat)) ∧ w' = w := by
 obtain ⟨E, hE⟩ : ∃ E, E = endsN zs := ⟨_, rfl⟩
 have hat := ends_at zs
 rw [← hE] at hat ⊢
 have hm := h.2.1
 unfold maxLen at hm
 have H : Hid (BIn w a n zs ∧ EndsAt zs E) := ⟨h, hat⟩
 clear h hat hE
 go_enter Tryz.func40, Tryz.ntmps40
 go_wp2
 go_loopw [3] (fun x wr => ∃ i : Nat, x = .int .i64 i ∧ i ≤ n ∧ E ≤ i ∧ wr = w) (fun x _ => (intOf x).toNat)
 case atStart => exact ⟨n, rfl, Nat.le_refl _, by have := H.out.2.1; have := H.out.1.1; omega, rfl⟩
 case round =>
  obtain ⟨i, rfl, hi, hEi, rfl⟩ := hrel
  rcases Nat.eq_zero_or_pos i with h0 | hp
  ·obtain rfl : E = 0 := by omega
   subst h0
   go_wp2
   go_ret
   exact ⟨rfl, rfl⟩
  ·obtain ⟨b, off, rfl, hc⟩ := H.out.1.2.2.2.resolve_left (by omega)
   obtain ⟨j, rfl⟩ : ∃ j, i = j + 1 := ⟨i - 1, by omega⟩
   have hcj := hc j (by omega)
   have hf := byte_fits H.out.1.2.2.1 j
   obtain ⟨z, hz⟩ : ∃ z, z = zs.getD j 0 := ⟨_, rfl⟩
   rw [← hz] at hcj hf
   have HZ : Hid (z = zs.getD j 0) := hz
   clear hc hz
   have hj0 : (0 : Int) < (j : Int) + 1 := by omega
   have hjn : (j : Int) < n := by omega
   have hw : IntKind.i64.wrap ((j : Int) + 1 - 1) = j := by rw [IntKind.wrap_i64]; omega
   by_cases hz0 : z = 0
   ·subst hz0
    have HE : Hid (E ≤ j) := by
     show E ≤ j
     rcases H.out.2.2.2 with h | h
     ·omega
     ·rcases Nat.lt_or_ge j E with h' | h'
      ·obtain rfl : E = j + 1 := by omega
       exact (h HZ.out.symm).elim
      ·exact h'
    go_wp2
    go_roundw
    case rel => exact ⟨j, by go_num, by omega, HE.out, by first | rfl | trivial⟩
    case measure => simp [intOf]
   ·have hz' : (z == 0) = false := by simp [hz0]
    have HE : Hid (E = j + 1) := by
     show E = j + 1
     rcases Nat.lt_or_ge j E with h' | h'
     ·omega
     ·exact (hz0 (HZ.out.trans (H.out.2.2.1 j h'))).elim
    clear hz0
    go_wp2
    go_ret
    exact ⟨by rw [HE.out]; rfl, rfl⟩
end Go.Proofs.YtcdnjeiamihhbabGreat
