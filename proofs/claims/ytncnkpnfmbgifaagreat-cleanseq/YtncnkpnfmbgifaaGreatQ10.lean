/- Texts of this seat, one behind the other: LmI. -/
import Derived.Test.YtncnkpnfmbgifaaGreatQ9
import Derived.Shelf.SlSortCmp.NoneTotal
/- What one call of In does. -/
namespace Go.Proofs.YtncnkpnfmbgifaaGreat
open Go.RowKit Go.Sort Go.Lib Go.Shelf
set_option linter.unusedVariables false
set_option maxRecDepth 4000

theorem sortS_none (w : World) : Calls Tryz.prog 63 #[.slice none 0 0, .func (.func 64) #[] #[]] w fun e w' => e = .returned (.tuple #[]) ∧ w' = w := AnyF.slices_SortFunc_none Tryz.sortS none 0 _ w
theorem sorted_up {xs : List Pr} {d' : Array Pr} (hp : PermIn 0 xs.toArray.size xs.toArray d') (hs : SortedIn (ltOf cfP) 0 xs.toArray.size d') (hn : xs.Nodup) : d'.toList.Perm xs ∧ d'.toList.Pairwise (fun x y => ltP x y = true) := by
 obtain ⟨h1, _, h3⟩ := hp
 have hsz : d'.size = xs.length := by simpa using h1
 have e1 : (d'.extract 0 xs.toArray.size).toList = d'.toList := by simp [← hsz]
 have e2 : (xs.toArray.extract 0 xs.toArray.size).toList = xs := by simp
 rw [e1, e2] at h3
 refine ⟨h3, ?_⟩
 have hnd : d'.toList.Nodup := h3.nodup_iff.2 hn
 rw [List.pairwise_iff_getElem]
 intro i j hi hj hij
 have := hs i j (Nat.zero_le _) hij (by simpa [hsz] using hj)
 rw [cfP_lt] at this
 have hi' : i < d'.size := by simpa using hi
 have hj' : j < d'.size := by simpa using hj
 rw [getElem!_pos d' i hi', getElem!_pos d' j hj'] at this
 have hne : d'[i] ≠ d'[j] := by
  have := List.pairwise_iff_getElem.1 hnd i j hi hj hij
  simpa using this
 simpa using ltP_total hne.symm this
def inL (S : List Pl) (ts : List Pr) : List Pl := ts.map (fun s => ((atS S s).getD (0, 0), s))
theorem inL_is {S : List Pl} (g : Good S) {z : Int} {xs ts : List Pr} (hm : ∀ s, s ∈ xs ↔ kS.ok s ∧ ∃ n, (n, s) ∈ S) (hp : ts.Perm (xs.filter (fun s => s.1 == z))) (hu : ts.Pairwise (fun x y => ltP x y = true)) : IsIn S z (inL S ts) := by
 refine ⟨by unfold inL; rw [List.pairwise_map]; exact hu, fun p => ?_⟩
 unfold inL
 rw [List.mem_map]
 have hts : ∀ s, s ∈ ts ↔ (kS.ok s ∧ ∃ n, (n, s) ∈ S) ∧ s.1 = z := fun s => by
  rw [hp.mem_iff, List.mem_filter, hm]; simp
 constructor
 ·rintro ⟨s, hs, rfl⟩
  obtain ⟨⟨_, n, hn⟩, hz⟩ := (hts s).1 hs
  rw [(atS_some g).2 hn]
  exact ⟨hn, hz⟩
 ·rintro ⟨h1, h2⟩
  refine ⟨p.2, (hts p.2).2 ⟨⟨fitsS_ok (g.fits p h1).2, p.1, h1⟩, h2⟩, ?_⟩
  rw [(atS_some g).2 (show (p.1, p.2) ∈ S from h1)]
  rfl
theorem inL_length (S : List Pl) (ts : List Pr) : (inL S ts).length = ts.length := by unfold inL; simp
theorem inL_spots (S : List Pl) (ts : List Pr) : (inL S ts).map (·.2) = ts := by unfold inL; simp [Function.comp_def]
def InA (w : World) (z : Int) (b2 r c : Nat) (D : DataW Value) (v : Value) (wr : World) : Prop :=
 ∃ left cnt xs a cc, wr.ranges Tryz.prog 112 heldR b2 r c D left cnt ∧ Coll kS D left xs ∧ v = .slice a (xs.filter (fun s => s.1 == z)).length cc ∧ wr.ownsRow w.heap.size 112 2 (.slice a (xs.filter (fun s => s.1 == z)).length cc) (xs.filter (fun s => s.1 == z)).length (prC .i64 .i64 (xs.filter (fun s => s.1 == z))) ∧ RowKit.Below w.heap.size w wr ∧ xs.length + cnt ≤ c
def fZ (z : Int) (xs : List Pr) : List Pr := xs.filter (fun s => s.1 == z)
theorem fZ_yes {z : Int} {xs : List Pr} {x : Pr} (h : x.1 = z) : fZ z (xs ++ [x]) = fZ z xs ++ [x] := by unfold fZ; simp [List.filter_append, h]
theorem fZ_no {z : Int} {xs : List Pr} {x : Pr} (h : x.1 ≠ z) : fZ z (xs ++ [x]) = fZ z xs := by unfold fZ; simp [List.filter_append, h]
theorem fZ_le (z : Int) (xs : List Pr) : (fZ z xs).length ≤ xs.length := List.length_filter_le _ _
set_option maxHeartbeats 4000000 in
theorem mIn_of (p b1 b2 : Nat) (S : List Pl) (c : Nat) (z : Int) (w : World) (h : LmP w p b1 b2 S c) (hc : c < 100000) :
  Calls Tryz.prog 27 #[.pointer (some ⟨p, 0, none⟩), .int .i64 z] w fun e w' => ∃ L a n cc, e = .returned (.slice a n cc) ∧ IsIn S z L ∧ w'.ownsRow w.heap.size 51 4 (.slice a n cc) n (plC L) ∧ RowKit.Below w.heap.size w w' := by
 obtain ⟨D, hown, hD⟩ := h.m2
 have c1 := h.hp.cell 1
 simp only [List.getElem?_cons_zero, List.getElem?_cons_succ] at c1
 have HD : Hid (DIs kS D (fun s n => (n, s) ∈ S)) := hD
 have HG : Hid (LmP w p b1 b2 S c) := h
 have HN : Hid (Maps.size D ≤ c) := hown.size_le
 clear hD h
 go_enter Tryz.func27, Tryz.ntmps27
 go_wp2_with (first | (at_range; refine wpList_range_own _ rfl _ 103 rfl 112 107 okS.keyed Tryz.underlying103 _ b2 c D rfl hown ?_; intro w0 hrg0 hg0 hs0) | go_in)
 go_frame
 go_loopw [5, 6] (fun v _ wr => InA w z b2 w.heap.size c D v wr) (fun _ _ wr => wr.rangeLeft b2 w.heap.size)
 case atStart => exact ⟨_, _, [], none, 0, hrg0, Coll.start kS D, rfl, ⟨rfl, .inl ⟨rfl, rfl⟩⟩, (RowKit.Below.refl _ _).grown hg0 (Nat.le_refl _) (fun k hk => by cases hk), by have := HN.out; simpa using this⟩
 case round =>
  obtain ⟨left, cnt, xs, a, cc, hrg, hC, rfl, hO, hB, hle⟩ := hrel
  change wr.ownsRow w.heap.size 112 2 (.slice a (fZ z xs).length cc) (fZ z xs).length (prC .i64 .i64 (fZ z xs)) at hO
  change Code.wp _ _ _ { tmps := #[_, _, _, _, _, .slice a (fZ z xs).length cc, _, _, _, _, _, _, _, _, _, _, _, _, _, _, _, _, _, _, _, _, _, _, _, _, _, _, _, _, _, _, _, _, _, _, _, _, _, _, _, _, _, _, _, _, _, _], defers := _ } _
  have HC : Hid (Coll kS D left xs ∧ RowKit.Below w.heap.size w wr ∧ wr.ownsRow w.heap.size 112 2 (.slice a (fZ z xs).length cc) (fZ z xs).length (prC .i64 .i64 (fZ z xs))) := ⟨hC, hB, hO⟩
  have hfl := fZ_le z xs
  clear hC hB hO hrg0 hg0 hs0 c1
  go_wp2_with (first
   | (at_next; refine wpList_next_ranges _ rfl _ rfl 112 okS.keyed heldR (fun x : Pr => Value.agg #[.int .i64 x.1, .int .i64 x.2]) (fun v : Value => v) invKS invV b2 w.heap.size c _ _ _ rfl hrg ?_ ?_)
   | go_in)
  ·intro _ hl0
   have HM : Hid (∀ s, s ∈ xs ↔ kS.ok s ∧ ∃ n, (n, s) ∈ S) := fun s => HC.out.1.all HD.out hl0 s
   have HNd : Hid ((fZ z xs).Nodup) := HC.out.1.1.filter _
   rcases HC.out.2.2.2 with ⟨hv, h0⟩ | ⟨g, cap, cur, hv, _⟩
   ·obtain ⟨rfl, _, rfl⟩ : a = none ∧ (fZ z xs).length = 0 ∧ cc = 0 := by simpa using hv
    have C := sortS_none wr
    have hmk : (Instr.makeSlice 38 (.int .i64 0) (.int .i64 0)).run Tryz.prog wr = .ok (.slice (some ⟨wr.heap.size, 0, none⟩) 0 0) (wr.alloc (.cells #[] 51)) := run_places 0 (by omega) wr
    have hx0 : fZ z xs = [] := List.length_eq_zero_iff.1 h0
    have HI : Hid (IsIn S z []) := by
     have := inL_is (ts := []) HG.out.good HM.out (by show List.Perm [] (fZ z xs); rw [hx0]) .nil
     exact this
    rw [h0]
    have HO : Hid ((wr.alloc (.cells #[] 51)).ownsRow w.heap.size 51 4 (.slice (some ⟨wr.heap.size, 0, none⟩) 0 0) 0 (plC []) ∧ RowKit.Below w.heap.size w (wr.alloc (.cells #[] 51))) :=
     ⟨⟨rfl, .inr ⟨wr.heap.size, 0, #[], rfl, HC.out.2.1.size, by show (wr.heap.push _)[wr.heap.size]? = _; simp, Nat.le_refl _, Nat.zero_le _, rfl, rfl⟩⟩, HC.out.2.1.alloc HC.out.2.1.size _⟩
    clear HC HD HM HNd hx0 hrg hown hle h0
    go_wp2_with fail
    refine C.mono ?_
    rintro e w3 ⟨rfl, rfl⟩
    go_wp2
    refine wp_loop_rounds 1 ?_
    rw [rounds_succ]
    go_wp2
    go_ret
    exact ⟨[], _, _, _, rfl, HI.out, HO.out⟩
   ·cases hv
    have C := sortS_of g cc (fZ z xs).toArray wr (own_holds HC.out.2.2).1 (own_holds HC.out.2.2).2 (by simp; omega)
    simp only [List.size_toArray] at C
    go_wp2_with fail
    refine C.mono ?_
    rintro e w3 ⟨rfl, d', n', os, hp, hs, rfl⟩
    obtain ⟨hperm, hup⟩ := sorted_up hp hs HNd.out
    obtain ⟨ts, rfl⟩ : ∃ ts : List Pr, d' = ts.toArray := ⟨d'.toList, by simp⟩
    have hperm : ts.Perm (fZ z xs) := hperm
    have hup : ts.Pairwise (fun x y => ltP x y = true) := hup
    have hlen : ts.length = (fZ z xs).length := hperm.length_eq
    have hI := inL_is (ts := ts) HG.out.good HM.out hperm hup
    have hO3 := sort_own (n := n') (os := os) HC.out.2.2 (ts := ts) hlen
    have hG3 := grownBy_sortedK (q0 := .i64) (q1 := .i64) (w := wr) (g := g) (n := n') (os := os) ts.toArray
    have hB3 := HC.out.2.1.grown hG3 HC.out.2.1.size (fun k hk => by cases hk; exact (HC.out.2.2.lt g rfl).1)
    generalize sortWorldK (prL .i64 .i64) 2 wr g 0 n' ts.toArray os = W at hO3 hG3 hB3 ⊢
    have hSl : (inL S ts).length ≤ c := by rw [inL_length]; omega
    have hLs := inL_spots S ts
    have hLl : (fZ z xs).length = (inL S ts).length := by rw [inL_length]; exact hlen.symm
    generalize inL S ts = L at hI hSl hLs hLl
    rw [← hLs] at hO3
    rw [hLl] at hO3 ⊢
    have HI : Hid (IsIn S z L) := hI
    have hmk := run_places L.length (by omega) W
    have HB : Hid (AllB w p b1 b2 S L c g W.heap.size 0 .i64 .i64 (·.2) (W.alloc (.cells (plC (List.replicate L.length pl0)).toArray 51))) := by
     have hbA : RowKit.Below W.heap.size W (W.alloc (.cells (plC (List.replicate L.length pl0)).toArray 51)) := (RowKit.Below.refl _ _).alloc (Nat.le_refl _) _
     refine ⟨(HG.out.below hB3).below hbA, fun i x hx => ?_, by simpa using Blk.new' rfl rfl, hB3.size, HG.out.hp.lt, ?_, below_on hB3 hbA⟩
     ·have hx' : (L.map (·.2))[i]? = some x.2 := by rw [List.getElem?_map, hx]; rfl
      obtain ⟨d0, d1⟩ := pair_cells hO3 hx'
      exact ⟨(hbA.cell (old_block d0)).trans d0, (hbA.cell (old_block d1)).trans d1⟩
     ·have := (hO3.lt g rfl).2; omega
    clear hp hs C hG3 hlen hI hLs hLl hperm hup hO3 hB3 HC HD HM HNd hown hrg hle hfl
    go_wp2_with fail
    generalize W.alloc (.cells (plC (List.replicate L.length pl0)).toArray 51) = Y at HB ⊢
    generalize W.heap.size = o at HB ⊢
    go_loopw [8, 9, 34] (fun _ _ i wr => ∃ k : Nat, k ≤ L.length ∧ i = .int .i64 k ∧ AllB w p b1 b2 S L c g o k .i64 .i64 (·.2) wr) (fun _ _ i _ => L.length - (intOf i).toNat)
    case atStart => exact ⟨0, by omega, rfl, HB.out⟩
    case round =>
     rename_i wr0
     obtain ⟨k, hk, rfl, hA⟩ := hrel
     by_cases hlt : k < L.length
     ·have hlt' : (k : Int) < L.length := by omega
      obtain ⟨x, hx⟩ : ∃ x, L[k]? = some x := ⟨_, List.getElem?_eq_getElem hlt⟩
      obtain ⟨n0, n1⟩ := hA.nm k x hx
      have hxm : (x.1, x.2) ∈ S := ((HI.out.2 x).1 (List.mem_of_getElem? hx)).1
      have hget : atS S x.2 = some x.1 := (atS_some hA.lm.good).2 hxm
      have hf := hA.lm.good.fits x hxm
      have hV := hA.below ((RowKit.Below.refl _ _).alloc (Nat.le_refl _) (.cells #[.int .i64 x.2.1, .int .i64 x.2.2] 112))
      have m0 := hV.lm.hp.cell 1
      simp only [List.getElem?_cons_zero, List.getElem?_cons_succ] at m0
      have hl := hV.lm.drew.lookS1 hf.2
      have hl' := hV.lm.lookS1 hf.2
      rw [hget] at hl hl'
      simp only [Option.getD_some] at hl hl'
      have HA : Hid (AllB w p b1 b2 S L c g o k .i64 .i64 (·.2) wr) := hA
      have HV : Hid (AllB w p b1 b2 S L c g o k .i64 .i64 (·.2) (wr.alloc (.cells #[.int .i64 x.2.1, .int .i64 x.2.2] 112))) := hV
      have HX : Hid (L[k]? = some x) := hx
      have C := fun X => mPlace_of x.1 x.2 X
      clear hA hV hx hxm hget hf
      go_wp2_with fail
      have np : p ≠ o := by have h1 := HA.out.pl; have h2 := HA.out.le; omega
      have nq : wr.heap.size ≠ o := by have h1 := HA.out.ob.lt; omega
      have k1 : (wr.alloc (.cells #[.int .i64 x.2.1, .int .i64 x.2.2] 112)).cell? ⟨wr.heap.size, 0, none⟩ = some (.int .i64 x.2.1) := by go_simp
      have k2 : (wr.alloc (.cells #[.int .i64 x.2.1, .int .i64 x.2.2] 112)).cell? ⟨wr.heap.size, 1, none⟩ = some (.int .i64 x.2.2) := by go_simp
      go_region_held3 (fun X => X.cell? ⟨p, 1, none⟩ = some (.map (some b2)) ∧ X.cell? ⟨wr.heap.size, 0, none⟩ = some (.int .i64 x.2.1) ∧ X.cell? ⟨wr.heap.size, 1, none⟩ = some (.int .i64 x.2.2)) (first | exact ⟨m0, k1, k2⟩ | exact ⟨j0, j1, j2⟩ | exact ⟨kept_set (kept_set (kept_set (kept_set j0 np) np) np) np, kept_set (kept_set (kept_set (kept_set j1 nq) nq) nq) nq, kept_set (kept_set (kept_set (kept_set j2 nq) nq) nq) nq⟩)
       ((go_simp; go_at_call 59; refine (C _).mono ?_; rintro e w4 ⟨rfl, hb4⟩; have hb5 : RowKit.Below (wr.alloc (.cells #[.int .i64 x.2.1, .int .i64 x.2.2] 112)).heap.size (wr.alloc (.cells #[.int .i64 x.2.1, .int .i64 x.2.2] 112)) w4 := ⟨hb4.os, hb4.tape, hb4.output, hb4.size, hb4.block⟩; have j0 := (hb5.cell (old_block m0)).trans m0; have j1 := (hb5.cell (old_block k1)).trans k1; have j2 := (hb5.cell (old_block k2)).trans k2; have hA4 := HV.out.below hb5; have H4 : Hid (AllB w p b1 b2 S L c g o k .i64 .i64 (·.2) w4) := hA4; obtain ⟨⟨x0, x1, x2, x3⟩, y0, y1, y2, y3⟩ := hA4.room hlt; clear hA4 hb4 hb5))
      all_goals (
       have HS : Hid (AllB w p b1 b2 S L c g o (k + 1) .i64 .i64 (·.2) ((((w4.setCell ⟨o, k * 4, none⟩ (.int .u32 x.1.1)).setCell ⟨o, k * 4 + 1, none⟩ (.int .u64 x.1.2)).setCell ⟨o, k * 4 + 2, none⟩ (.int .i64 x.2.1)).setCell ⟨o, k * 4 + 3, none⟩ (.int .i64 x.2.2))) := H4.out.step HX.out
       clear x0 x1 x2 x3 y0 y1 y2 y3 j0 j1 j2 H4
       go_wp2
       go_roundw
       case rel => exact ⟨k + 1, by omega, by go_num, HS.out⟩
       case measure => simp [intOf]; omega)
     ·have hge : (L.length : Int) ≤ k := by omega
      have hkn : k = L.length := by omega
      have HA : Hid (AllB w p b1 b2 S L c g o L.length .i64 .i64 (·.2) wr) := by rw [← hkn]; exact hA
      clear hA hkn
      go_wp2
      go_ret
      exact ⟨L, _, _, _, rfl, HI.out, HA.out.told (by omega), HA.out.bel⟩
  ·intro xa xb v kl ya yb w2 cnt1 hkey hlx hv hat hrg1 hlt hg1 hs1 hen
   obtain ⟨hkx, rfl⟩ := keyS_of (x := (xa, xb)) hkey
   obtain ⟨hC, hB, hO⟩ := HC.out
   have hB2 := hB.grown hg1 hB.size (fun k hk => by cases hk; exact Nat.le_refl _)
   have hO2 := (hO.kept hg1 (.inr (fun e => (row_ne_iter hO hrg).2 e.symm))).alloc (.cells #[.int .i64 xa, .int .i64 xb] 112)
   have hr2 := hrg1.alloc (.cells #[.int .i64 xa, .int .i64 xb] 112)
   by_cases hz : xa = z
   ·have hz' := hz.symm
    subst hz'
    obtain ⟨g', cc', W', hrun, hO3, hgr⟩ := app_pair (q0 := .i64) (q1 := .i64) Tryz.underlying123 Tryz.zero_spot rfl hO2 (z, xb) (by omega) (by have := hB2.size; simp; omega) (w2.heap.size + 1) (by simp)
    have hr3 := hr2.kept hgr (row_ne_iter hO2 hr2).1 (row_ne_iter hO2 hr2).2
    have hB3 : RowKit.Below w.heap.size w W' := (hB2.alloc hB2.size _).grown hgr (by have := hB2.size; simp; omega) (fun k hk => (hO2.lt k hk).1)
    have HA : Hid (InA w z b2 w.heap.size c D (.slice (some ⟨g', 0, none⟩) ((fZ z xs).length + 1) cc') W' ∧ W'.rangeLeft b2 w.heap.size < wr.rangeLeft b2 w.heap.size) := by
     refine ⟨⟨_, cnt1, xs ++ [(z, xb)], some ⟨g', 0, none⟩, cc', hr3, hC.step okS hkx hlx hat, ?_, ?_, hB3, by simp; omega⟩, ?_⟩
     ·show _ = Value.slice _ (fZ z (xs ++ [(z, xb)])).length _
      rw [fZ_yes (x := (z, xb)) rfl]; simp
     ·show W'.ownsRow _ _ _ (Value.slice _ (fZ z (xs ++ [(z, xb)])).length _) (fZ z (xs ++ [(z, xb)])).length (prC _ _ (fZ z (xs ++ [(z, xb)])))
      rw [fZ_yes (x := (z, xb)) rfl]; simpa using hO3
     ·rw [hr3.left_eq, hrg.left_eq]; exact hlt
    clear hC hB hO hB2 hO2 hO3 hgr hr2 hr3 hB3 hkey hlx hv hat hrg1 hg1 hrg HC hs1
    go_wp2_with (first | (at_builtin; refine lwpList_append_run rfl _ _ 123 123 rfl _ _ rfl rfl _ _ hrun ?_) | go_in)
    go_roundw
    case rel => exact HA.out.1
    case measure => exact HA.out.2
   ·have HA : Hid (InA w z b2 w.heap.size c D (.slice a (fZ z xs).length cc) (w2.alloc (.cells #[.int .i64 xa, .int .i64 xb] 112)) ∧ (w2.alloc (.cells #[.int .i64 xa, .int .i64 xb] 112)).rangeLeft b2 w.heap.size < wr.rangeLeft b2 w.heap.size) := by
     refine ⟨⟨_, cnt1, xs ++ [(xa, xb)], a, cc, hr2, hC.step okS hkx hlx hat, ?_, ?_, hB2.alloc hB2.size _, by simp; omega⟩, ?_⟩
     ·show _ = Value.slice _ (fZ z (xs ++ [(xa, xb)])).length _
      rw [fZ_no (x := (xa, xb)) hz]
     ·show World.ownsRow _ _ _ _ (Value.slice _ (fZ z (xs ++ [(xa, xb)])).length _) (fZ z (xs ++ [(xa, xb)])).length (prC _ _ (fZ z (xs ++ [(xa, xb)])))
      rw [fZ_no (x := (xa, xb)) hz]; exact hO2
     ·rw [hr2.left_eq, hrg.left_eq]; exact hlt
    clear hC hB hO hB2 hO2 hr2 hkey hlx hv hat hrg1 hg1 hrg HC hs1
    go_wp2
    go_roundw
    case rel => exact HA.out.1
    case measure => exact HA.out.2
end Go.Proofs.YtncnkpnfmbgifaaGreat
