/- What one call of does and of known (of the statements' own) does. -/
import Derived.Test.YtconfkgadmjhhaaLmQ
import Derived.Test.YtconfkgadmjhhaaLmC
import Derived.Deep.RegionHeld3
namespace Go.Proofs.Ytconfkgadmjhhaa
open Go.RowKit
set_option linter.unusedVariables false
set_option maxRecDepth 4000

abbrev Opn := Bool × Pl
def doS (S : List Pl) (o : Opn) : List Pl := if o.1 then dropS S o.2.1 else putS S o.2
def opL (o : Opn) : List Value := .bool o.1 :: plL o.2
def Three (b1 b2 r : Nat) : Nat → Prop := fun k => k = b1 ∨ k = b2 ∨ k = r
theorem Good.does {S : List Pl} (h : Good S) {o : Opn} (hf : FitsP o.2) : Good (doS S o) := by
  unfold doS
  split
  · exact h.drop _
  · exact h.put hf
theorem doS_len {S : List Pl} (h : Good S) (o : Opn) : (doS S o).length ≤ S.length + 1 := by
  unfold doS
  split
  · have := dropS_len S o.2.1; omega
  · exact putS_len h o.2
theorem two_three {b1 b2 r : Nat} : ∀ j, Two b1 b2 j → Three b1 b2 r j := by rintro j (h | h); exact .inl h; exact .inr (.inl h)
set_option maxHeartbeats 4000000 in
theorem mdoes_of (p b1 b2 r : Nat) (S : List Pl) (c : Nat) (o : Opn) (w : World) (hp : LmP w p b1 b2 S c) (hd : LmD w r S) (hf : FitsP o.2) (hc : c < 100000) (hS : S.length ≤ 10000) :
    Calls Try.prog 11 #[.pointer (some ⟨p, 0, none⟩), .pointer (some ⟨r, 0, none⟩), .agg #[.bool o.1, .int .u32 o.2.1.1, .int .u64 o.2.1.2, .int .i64 o.2.2.1, .int .i64 o.2.2.2]] w fun e w' => e = .returned (.bool true) ∧ LmP w' p b1 b2 (doS S o) (c + 1) ∧ LmD w' r (doS S o) ∧ Out (Three b1 b2 r) w w' := by
  obtain ⟨V, hV⟩ : ∃ V, V = w.alloc (.cells #[.bool o.1, .int .u32 o.2.1.1, .int .u64 o.2.1.2, .int .i64 o.2.2.1, .int .i64 o.2.2.2] 36) := ⟨_, rfl⟩
  have hB : Blk V w.heap.size (opL o) 36 := by rw [hV]; exact Blk.new' rfl rfl
  have bV : Below w.heap.size w V := by rw [hV]; exact (Below.refl _ _).alloc (Nat.le_refl _) _
  have hpV := hp.below bV
  have hdV := hd.below bV
  have hrw : r < w.heap.size := hd.lt
  have HV : Hid (V = w.alloc (.cells #[.bool o.1, .int .u32 o.2.1.1, .int .u64 o.2.1.2, .int .i64 o.2.2.1, .int .i64 o.2.2.2] 36)) := hV
  have hlt : ∀ k, k = p ∨ k = b1 ∨ k = b2 → k < w.heap.size := hp.lt
  clear hV hp hd
  obtain ⟨dr, x⟩ := o
  cases dr with
  | true =>
    have n1 := hlt b1 (by simp)
    have n2 := hlt b2 (by simp)
    have c0 := hB.cell 0
    have c1 := hB.cell 1
    have c2 := hB.cell 2
    have hD0 : doS S (true, x) = dropS S x.1 := rfl
    rw [hD0]
    simp only [opL, plL, List.getElem?_cons_zero, List.getElem?_cons_succ] at c0 c1 c2
    have HS : Hid (LmP V p b1 b2 S c ∧ LmD V r S ∧ Below w.heap.size w V) := ⟨hpV, hdV, bV⟩
    -- the two calls, in either order
    have CA : ∀ X : World, LmP X p b1 b2 S c → Calls Try.prog 23 #[.pointer (some ⟨p, 0, none⟩), .int .u32 x.1.1, .int .u64 x.1.2] X fun e w' => e = .returned (.bool (getS S x.1).isSome) ∧ LmP w' p b1 b2 (dropS S x.1) c ∧ Out (Two b1 b2) X w' := fun X h => mDrop_of p b1 b2 S c x.1 X h hf.1
    have CB : ∀ X : World, LmD X r S → Calls Try.prog 25 #[.pointer (some ⟨r, 0, none⟩), .int .u32 x.1.1, .int .u64 x.1.2] X fun e w' => e = .returned (.bool (getS S x.1).isSome) ∧ LmD w' r (dropS S x.1) ∧ Out (fun k => k = r) X w' := fun X h => dmDrop_of r S x.1 X h hS
    generalize (getS S x.1).isSome = bo at CA CB
    clear hpV hdV bV hB hlt hf hD0
    go_enter Try.func11, Try.ntmps11
    go_wp2_with fail
    rw [← HV.out]
    clear HV
    have q0 : w.heap.size ≠ r := by omega
    have q1 : ¬ Two b1 b2 w.heap.size := by rintro (e | e) <;> omega
    go_region_held3 (fun X => X.cell? ⟨w.heap.size, 1, none⟩ = some (.int .u32 x.1.1) ∧ X.cell? ⟨w.heap.size, 2, none⟩ = some (.int .u64 x.1.2)) (first | exact ⟨c1, c2⟩ | exact ⟨j1, j2⟩ | exact ⟨k1, k2⟩)
      (first
      | (go_simp; go_at_call 23; refine (CA _ HS.out.1.drew).mono ?_; rintro e w5 ⟨rfl, hP5, o5⟩; have j1 := o5.cell (show V.drew.cell? _ = _ from c1) q1; have j2 := o5.cell (show V.drew.cell? _ = _ from c2) q1; have H5 : Hid (LmP w5 p b1 b2 (dropS S x.1) c ∧ LmD w5 r S ∧ Out (Two b1 b2) w w5) := ⟨hP5, (show LmD V.drew r S from HS.out.2.1.below ⟨rfl, rfl, rfl, Nat.le_refl _, fun _ _ => rfl⟩).prog HS.out.1.drew o5, (below_out _ HS.out.2.2).drew.trans o5 (fun j e => .inl e)⟩; clear hP5 o5)
      | (go_simp; go_at_call 25; refine (CB _ H5.out.2.1).mono ?_; rintro e w6 ⟨rfl, hD6, o6⟩; have k1 := o6.cell j1 q0; have k2 := o6.cell j2 q0; have H6 : Hid (LmP w6 p b1 b2 (dropS S x.1) (c + 1) ∧ LmD w6 r (dropS S x.1) ∧ Out (Three b1 b2 r) w w6) := ⟨(H5.out.1.doc H5.out.2.1 o6).mono (by omega), hD6, (H5.out.2.2.mono (fun j e _ => two_three j e)).trans o6 (fun j e => .inl (.inr (.inr e)))⟩; clear hD6 o6))
    all_goals (
      go_wp2
      go_ret
      exact ⟨by simp, H6.out⟩)
  | false =>
    have n1 := hlt b1 (by simp)
    have n2 := hlt b2 (by simp)
    have hD0 : doS S (false, x) = putS S x := rfl
    rw [hD0]
    have q0 : w.heap.size ≠ r := by omega
    have q1 : ¬ Two b1 b2 w.heap.size := by rintro (e | e) <;> omega
    have c0 := hB.cell 0
    have c1 := hB.cell 1
    have c2 := hB.cell 2
    have c3 := hB.cell 3
    have c4 := hB.cell 4
    simp only [opL, plL, List.getElem?_cons_zero, List.getElem?_cons_succ] at c0 c1 c2 c3 c4
    have HS : Hid (LmD V r S ∧ Below w.heap.size w V ∧ LmP V p b1 b2 S c) := ⟨hdV, bV, hpV⟩
    have CA := mPut_of p b1 b2 S c x V hpV hf hc
    clear hpV hdV bV hB hlt hD0
    go_enter Try.func11, Try.ntmps11
    go_wp2_with fail
    rw [← HV.out]
    clear HV
    refine CA.mono ?_
    rintro e w5 ⟨rfl, hP5, o5⟩
    have hD5 := HS.out.1.prog HS.out.2.2 o5
    have j1 := o5.cell c1 q1
    have j2 := o5.cell c2 q1
    have j3 := o5.cell c3 q1
    have j4 := o5.cell c4 q1
    have CB := dmPut_of r S x w5 hD5 hf hS
    have H5 : Hid (LmP w5 p b1 b2 (putS S x) (c + 1) ∧ LmD w5 r S ∧ Out (Two b1 b2) w w5) := ⟨hP5, hD5, (below_out _ HS.out.2.1).trans o5 (fun j e => .inl e)⟩
    clear hP5 o5 hD5 CA c0 c1 c2 c3 c4 hf
    go_wp2_with fail
    refine CB.mono ?_
    rintro e w6 ⟨rfl, hD6, o6⟩
    have H6 : Hid (LmP w6 p b1 b2 (putS S x) (c + 1) ∧ LmD w6 r (putS S x) ∧ Out (Three b1 b2 r) w w6) := ⟨H5.out.1.doc H5.out.2.1 o6, hD6, (H5.out.2.2.mono (fun j e _ => two_three j e)).trans o6 (fun j e => .inl (.inr (.inr e)))⟩
    clear hD6 o6 CB
    go_wp2
    go_ret
    exact ⟨rfl, H6.out⟩
def kx1 : Pl := ((1, 2), (3, 4))
def kx2 : Pl := ((1, 5), (3, 4))
theorem kx_fits : FitsP kx1 ∧ FitsP kx2 := ⟨⟨⟨⟨by decide, by decide⟩, ⟨by decide, by decide⟩⟩, ⟨⟨by decide, by decide⟩, ⟨by decide, by decide⟩⟩⟩, ⟨⟨⟨by decide, by decide⟩, ⟨by decide, by decide⟩⟩, ⟨⟨by decide, by decide⟩, ⟨by decide, by decide⟩⟩⟩⟩
theorem kx_get : getS (putS (putS [] kx1) kx2) (1, 2) = none ∧ cntS (putS (putS [] kx1) kx2) 1 = 1 := by decide
theorem mknown_of (w : World) : Calls Try.prog 8 #[] w fun e w' => e = .returned (.bool true) ∧ Below w.heap.size w w' := by
  have C := mNew_of w
  go_enter Try.func8, Try.ntmps8
  go_wp2_with fail
  refine C.mono ?_
  rintro e w1 ⟨p, b1, b2, rfl, h1, bel1, lp, l1, l2⟩
  clear C
  have C1 := mPut_of p b1 b2 [] 0 kx1 w1 h1 kx_fits.1 (by omega)
  have HB : Hid (Below w.heap.size w w1) := bel1
  have hTwo : ∀ j, Two b1 b2 j → w.heap.size ≤ j := by rintro j (rfl | rfl) <;> omega
  clear h1 bel1
  go_wp2_with fail
  refine C1.mono ?_
  rintro e w2 ⟨rfl, h2, o2⟩
  have HB2 : Hid (Below w.heap.size w w2) := HB.out.trans (o2.below HB.out.size hTwo)
  clear C1 o2 HB
  have C2 := mPut_of p b1 b2 _ _ kx2 w2 h2 kx_fits.2 (by omega)
  clear h2
  go_wp2_with fail
  refine C2.mono ?_
  rintro e w3 ⟨rfl, h3, o3⟩
  have HB3 : Hid (Below w.heap.size w w3) := HB2.out.trans (o3.below HB2.out.size hTwo)
  clear C2 o3 HB2
  have C3 := mGet_of p b1 b2 _ _ (1, 2) w3 h3 (by unfold FitsN Fits32 FitsU; omega)
  rw [kx_get.1] at C3
  have H3 : Hid (LmP w3 p b1 b2 (putS (putS [] kx1) kx2) (0 + 1 + 1)) := h3
  clear h3
  go_wp2_with fail
  refine C3.mono ?_
  rintro e w4 ⟨rfl, b4⟩
  have h4 := (H3.out.below b4).alloc (.cells #[.int .i64 0, .int .i64 0] 32)
  have C4 := mCount_of p b1 b2 _ _ 1 _ h4 (by omega)
  rw [kx_get.2] at C4
  have HB4 : Hid (Below w.heap.size w (w4.alloc (.cells #[.int .i64 0, .int .i64 0] 32))) := (below_then HB3.out b4 HB3.out.size).alloc (Nat.le_trans HB3.out.size b4.size) _
  clear C3 H3 HB3 b4 h4
  go_wp2_with fail
  refine C4.mono ?_
  rintro e w5 ⟨rfl, b5⟩
  have HB5 : Hid (Below w.heap.size w w5) := below_then HB4.out b5 HB4.out.size
  clear C4 HB4 b5
  go_wp2
  go_ret
  exact ⟨rfl, HB5.out⟩
end Go.Proofs.Ytconfkgadmjhhaa
