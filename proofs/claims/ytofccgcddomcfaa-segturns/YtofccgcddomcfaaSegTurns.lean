/- A zone goes round: free, open, full, free; nothing else is made of one. -/
import Derived.Test.YtofccgcddomcfaaRows
import Derived.Test.YtofccgcddomcfaaSgLaw
import Derived.WalkKit
import Derived.ProofKit
import Derived.OpenShut
import Derived.ShutString
import Derived.ChangeOld
import Derived.Below
namespace Go.Proofs.Ytofccgcddomcfaa.segTurns
open Go.ChangeShapes Go.WideShapes Go.ChangeAt Go.RowKit
open Go.ChangeMaps (open_string shut_string)
set_option linter.unusedVariables false

theorem own : ownKnob Try.prog.godebug = none := by kernel_rfl
theorem laidOut : laidOutB Try.prog = true := by kernel_rfl

theorem walk (s0 : Sh) (a1 : Int) (w : World) (w0 : ShF s0) (w1 : (Lit.int .i64 a1).wf = true) :
    Calls Try.prog 5 #[.agg (shL s0).toArray, .int .i64 a1] w fun e w' => e = .returned (.bool true) ∧ Below w.heap.size w w' := by
  obtain ⟨hz0, hz1⟩ := w0.1
  obtain ⟨q, hq⟩ : ∃ q, q = w.heap.size := ⟨_, rfl⟩
  have hb : Blk (w.alloc (.cells #[.int .i64 s0.z, .int .i64 s0.zb, .int .i64 s0.b, .int .i64 s0.r] 23)) q (shL s0) 23 := Blk.new' hq.symm rfl
  have hbel : Below w.heap.size w (w.alloc (.cells #[.int .i64 s0.z, .int .i64 s0.zb, .int .i64 s0.b, .int .i64 s0.r] 23)) := (Below.refl _ _).alloc (Nat.le_refl _) _
  simp only [shL]
  go_enter Try.func5, Try.ntmps5
  go_upto_region 1 with fail
  rw [← hq]
  generalize hW1 : World.alloc _ _ = W1 at *
  clear hW1 hq
  have cells : ∀ {V : World}, Below W1.heap.size W1 V → V.cell? ⟨q, 0, none⟩ = some (.int .i64 s0.z) ∧ V.cell? ⟨q, 1, none⟩ = some (.int .i64 s0.zb) ∧ V.cell? ⟨q, 2, none⟩ = some (.int .i64 s0.b) ∧ V.cell? ⟨q, 3, none⟩ = some (.int .i64 s0.r) := by
    intro V hV
    have h := (below_out Non hV).blk hb id
    exact ⟨h.cell 0, h.cell 1, h.cell 2, h.cell 3⟩
  obtain ⟨e0, e1, e2, e3⟩ := cells (Below.refl _ _)
  have HC : Hid (∀ {V : World}, Below W1.heap.size W1 V → V.cell? ⟨q, 0, none⟩ = some (.int .i64 s0.z) ∧ V.cell? ⟨q, 1, none⟩ = some (.int .i64 s0.zb) ∧ V.cell? ⟨q, 2, none⟩ = some (.int .i64 s0.b) ∧ V.cell? ⟨q, 3, none⟩ = some (.int .i64 s0.r)) := cells
  have HB : Hid (Below w.heap.size w W1 ∧ F64 s0.z) := ⟨hbel, hz0, hz1⟩
  have out : ∀ {V : World}, Below W1.heap.size W1 V → Below w.heap.size w V := fun h => hbel.trans (h.mono hbel.size)
  have HO : Hid (∀ {V : World}, Below W1.heap.size W1 V → Below w.heap.size w V) := out
  clear cells out hb hbel hz0 hz1 w0
  by_cases h3 : 300 < s0.z
  · go_wp2_with (go_at_call 7; refine (gknown_any _).mono ?_; rintro e w2 ⟨rfl, hb2⟩)
    go_ret
    exact ⟨rfl, HO.out hb2⟩
  have h3' : s0.z ≤ 300 := by omega
  clear h3
  go_wp2_with fail
  refine (gknown_any _).mono ?_
  rintro e w2 ⟨rfl, hb2⟩
  clear e0 e1 e2 e3
  obtain ⟨e0, e1, e2, e3⟩ := HC.out hb2
  have HN := gNew_of s0 w2 HB.out.2.1
  simp only [shL] at HN
  go_wp2_with fail
  refine HN.mono ?_
  clear HN
  rintro e w3 (⟨hno, rfl, hb3⟩ | ⟨hyes, p, g, rfl, hs3, hp3, hg3, hb3⟩)
  · go_wp2
    go_ret
    exact ⟨rfl, HO.out (hb2.trans (hb3.mono hb2.size))⟩
  obtain ⟨Z, hZ⟩ : ∃ Z : Nat, s0.z = Z := ⟨s0.z.toNat, by have := hyes.1; omega⟩
  have hZ6 : 6 ≤ Z ∧ Z ≤ 256 := by have := hyes.1; have := hyes.2.1; omega
  have hZt : s0.z.toNat = Z := by omega
  rw [hZt] at hs3
  have hB3 : Below W1.heap.size W1 w3 := hb2.trans (hb3.mono hb2.size)
  have hgB : W1.heap.size ≤ g := by have := hb2.size; omega
  have HG : Hid (W1.heap.size ≤ g ∧ RightS s0) := ⟨hgB, hyes⟩
  clear e0 e1 e2 e3 hb3 hb2 hyes hp3 hg3 hgB hZt
  obtain ⟨e0, e1, e2, e3⟩ := HC.out hB3
  clear e1 e2 e3
  rw [hZ] at e0
  have nxt : ∀ {V V' : World}, Below W1.heap.size W1 V → Out (fun j => j = g) V V' → Below W1.heap.size W1 V' := fun h ho => h.trans (ho.below h.size (fun j e => by rw [e]; exact HG.out.1))
  have HX : Hid (∀ {V V' : World}, Below W1.heap.size W1 V → Out (fun j => j = g) V V' → Below W1.heap.size W1 V') := nxt
  clear nxt hZ h3'
  by_cases hlt : a1 < 2
  · have hst := newZ_out (Z := Z) (by omega) (z := a1) (.inl hlt)
    have hs : ∃ s, stZ (newZ Z) a1 = s ∧ s ≠ 1 ∧ s ≠ 2 ∧ s ≠ 3 := by
      rcases hst with h | h
      · exact ⟨0, h, by decide, by decide, by decide⟩
      · exact ⟨4, h, by decide, by decide, by decide⟩
    obtain ⟨s, hs, s1, s2, s3⟩ := hs
    have HS : Hid (stZ (newZ Z) a1 = s ∧ s ≠ 1 ∧ s ≠ 2 ∧ s ≠ 3) := ⟨hs, s1, s2, s3⟩
    clear hst hs s1 s2 s3
    have HT := gFill_of p g s0.r _ a1 w3 hs3
    have HS3 : Hid (SegP w3 p g s0.r (newZ Z) ∧ Below W1.heap.size W1 w3) := ⟨hs3, hB3⟩
    clear hs3 hB3
    go_wp2_with fail
    refine HT.mono ?_
    clear HT
    rintro e w4 ⟨rfl, hs4, ho4⟩
    rw [(turn_no HS.out.1 HS.out.2.2.1).1] at hs4
    rw [(turn_no HS.out.1 HS.out.2.2.1 (b := 0)).2]
    have hB4 := HX.out HS3.out.2 ho4
    clear ho4
    have HT := gClear_of p g s0.r _ a1 w4 hs4
    have HS4 : Hid (SegP w4 p g s0.r (newZ Z) ∧ Below W1.heap.size W1 w4) := ⟨hs4, hB4⟩
    clear hs4 hB4
    go_wp2_with fail
    refine HT.mono ?_
    clear HT
    rintro e w5 ⟨rfl, hs5, ho5⟩
    rw [(turn_no HS.out.1 HS.out.2.2.2).1] at hs5
    rw [(turn_no HS.out.1 HS.out.2.2.2 (b := 0)).2]
    have hB5 := HX.out HS4.out.2 ho5
    clear ho5
    have HT := gFound_of p g s0.r _ a1 w5 hs5
    have HS5 : Hid (SegP w5 p g s0.r (newZ Z) ∧ Below W1.heap.size W1 w5) := ⟨hs5, hB5⟩
    clear hs5 hB5
    go_wp2_with fail
    refine HT.mono ?_
    clear HT
    rintro e w6 ⟨rfl, hs6, ho6⟩
    rw [(turn_no HS.out.1 HS.out.2.1).1] at hs6
    rw [(turn_no HS.out.1 HS.out.2.1 (b := 0)).2]
    have hB6 := HX.out HS5.out.2 ho6
    clear ho6
    have HE := HO.out hB6
    clear hs6 hB6
    go_wp2
    go_ret
    exact ⟨rfl, HE⟩
  by_cases hge : (Z : Int) ≤ a1
  · have hst := newZ_out (Z := Z) (by omega) (z := a1) (.inr hge)
    have hs : ∃ s, stZ (newZ Z) a1 = s ∧ s ≠ 1 ∧ s ≠ 2 ∧ s ≠ 3 := by
      rcases hst with h | h
      · exact ⟨0, h, by decide, by decide, by decide⟩
      · exact ⟨4, h, by decide, by decide, by decide⟩
    obtain ⟨s, hs, s1, s2, s3⟩ := hs
    have HS : Hid (stZ (newZ Z) a1 = s ∧ s ≠ 1 ∧ s ≠ 2 ∧ s ≠ 3) := ⟨hs, s1, s2, s3⟩
    clear hst hs s1 s2 s3
    have HT := gFill_of p g s0.r _ a1 w3 hs3
    have HS3 : Hid (SegP w3 p g s0.r (newZ Z) ∧ Below W1.heap.size W1 w3) := ⟨hs3, hB3⟩
    clear hs3 hB3
    go_wp2_with fail
    refine HT.mono ?_
    clear HT
    rintro e w4 ⟨rfl, hs4, ho4⟩
    rw [(turn_no HS.out.1 HS.out.2.2.1).1] at hs4
    rw [(turn_no HS.out.1 HS.out.2.2.1 (b := 0)).2]
    have hB4 := HX.out HS3.out.2 ho4
    clear ho4
    have HT := gClear_of p g s0.r _ a1 w4 hs4
    have HS4 : Hid (SegP w4 p g s0.r (newZ Z) ∧ Below W1.heap.size W1 w4) := ⟨hs4, hB4⟩
    clear hs4 hB4
    go_wp2_with fail
    refine HT.mono ?_
    clear HT
    rintro e w5 ⟨rfl, hs5, ho5⟩
    rw [(turn_no HS.out.1 HS.out.2.2.2).1] at hs5
    rw [(turn_no HS.out.1 HS.out.2.2.2 (b := 0)).2]
    have hB5 := HX.out HS4.out.2 ho5
    clear ho5
    have HT := gFound_of p g s0.r _ a1 w5 hs5
    have HS5 : Hid (SegP w5 p g s0.r (newZ Z) ∧ Below W1.heap.size W1 w5) := ⟨hs5, hB5⟩
    clear hs5 hB5
    go_wp2_with fail
    refine HT.mono ?_
    clear HT
    rintro e w6 ⟨rfl, hs6, ho6⟩
    rw [(turn_no HS.out.1 HS.out.2.1).1] at hs6
    rw [(turn_no HS.out.1 HS.out.2.1 (b := 0)).2]
    have hB6 := HX.out HS5.out.2 ho6
    clear ho6
    have HE := HO.out hB6
    clear hs6 hB6
    go_wp2
    go_ret
    exact ⟨rfl, HE⟩
  obtain ⟨z, rfl⟩ : ∃ z : Nat, a1 = z := ⟨a1.toNat, by omega⟩
  have hz2 : 2 ≤ z ∧ z < Z := by omega
  have HZ : Hid (2 ≤ z ∧ z < Z) := hz2
  have f0 : stZ (newZ Z) z = 1 := by rw [stZ_nat, newZ_getD (by omega) hz2.2, if_neg (by omega)]
  have F0 : Hid (stZ (newZ Z) z = 1) := f0
  have l0 : Hid ((newZ Z).length = Z) := newZ_length (by omega)
  clear f0 w1
  have HT := gFill_of p g s0.r _ z w3 hs3
  have HS3 : Hid (SegP w3 p g s0.r (newZ Z) ∧ Below W1.heap.size W1 w3) := ⟨hs3, hB3⟩
  clear hs3 hB3
  go_wp2_with fail
  refine HT.mono ?_
  clear HT
  rintro e w4 ⟨rfl, hs4, ho4⟩
  rw [(turn_no F0.out (by decide)).1] at hs4
  rw [(turn_no F0.out (by decide) (b := 0)).2]
  have hB4 := HX.out HS3.out.2 ho4
  clear ho4 HS3
  have HT := gClear_of p g s0.r _ z w4 hs4
  have HS4 : Hid (SegP w4 p g s0.r (newZ Z) ∧ Below W1.heap.size W1 w4) := ⟨hs4, hB4⟩
  clear hs4 hB4
  go_wp2_with fail
  refine HT.mono ?_
  clear HT
  rintro e w5 ⟨rfl, hs5, ho5⟩
  rw [(turn_no F0.out (by decide)).1] at hs5
  rw [(turn_no F0.out (by decide) (b := 0)).2]
  have hB5 := HX.out HS4.out.2 ho5
  clear ho5 HS4
  have HT := gFound_of p g s0.r _ z w5 hs5
  have HS5 : Hid (SegP w5 p g s0.r (newZ Z) ∧ Below W1.heap.size W1 w5) := ⟨hs5, hB5⟩
  clear hs5 hB5
  go_wp2_with fail
  refine HT.mono ?_
  clear HT
  rintro e w6 ⟨rfl, hs6, ho6⟩
  rw [(turn_yes F0.out (by decide) (b := 0)).2]
  have hB6 := HX.out HS5.out.2 ho6
  have Y6 : Hid (∀ y, stZ (turnZ (newZ Z) z 1 3) y = if y = (z : Int) then 3 else stZ (newZ Z) y) := (turn_yes F0.out (by decide)).1
  have l6 : Hid ((turnZ (newZ Z) z 1 3).length = Z) := show _ = _ by rw [turnZ_length]; exact l0.out
  obtain ⟨L6, hL6⟩ : ∃ L6, L6 = turnZ (newZ Z) z 1 3 := ⟨_, rfl⟩
  rw [← hL6] at Y6 hs6 l6
  have F6 : Hid (stZ L6 z = 3) := show _ = _ by rw [Y6.out, if_pos rfl]
  clear hL6 ho6 HS5
  have HT := gFound_of p g s0.r _ z w6 hs6
  have HS6 : Hid (SegP w6 p g s0.r (L6) ∧ Below W1.heap.size W1 w6) := ⟨hs6, hB6⟩
  clear hs6 hB6
  go_wp2_with fail
  refine HT.mono ?_
  clear HT
  rintro e w7 ⟨rfl, hs7, ho7⟩
  rw [(turn_no F6.out (by decide)).1] at hs7
  rw [(turn_no F6.out (by decide) (b := 0)).2]
  have hB7 := HX.out HS6.out.2 ho7
  clear ho7 HS6
  have HT := gFill_of p g s0.r _ z w7 hs7
  have HS7 : Hid (SegP w7 p g s0.r (L6) ∧ Below W1.heap.size W1 w7) := ⟨hs7, hB7⟩
  clear hs7 hB7
  go_wp2_with fail
  refine HT.mono ?_
  clear HT
  rintro e w8 ⟨rfl, hs8, ho8⟩
  rw [(turn_no F6.out (by decide)).1] at hs8
  rw [(turn_no F6.out (by decide) (b := 0)).2]
  have hB8 := HX.out HS7.out.2 ho8
  clear ho8 HS7
  have HT := gClear_of p g s0.r _ z w8 hs8
  have HS8 : Hid (SegP w8 p g s0.r (L6) ∧ Below W1.heap.size W1 w8) := ⟨hs8, hB8⟩
  clear hs8 hB8
  go_wp2_with fail
  refine HT.mono ?_
  clear HT
  rintro e w9 ⟨rfl, hs9, ho9⟩
  rw [(turn_yes F6.out (by decide) (b := 0)).2]
  have hB9 := HX.out HS8.out.2 ho9
  have Y9 : Hid (∀ y, stZ (turnZ (L6) z 3 1) y = if y = (z : Int) then 1 else stZ (L6) y) := (turn_yes F6.out (by decide)).1
  have l9 : Hid ((turnZ (L6) z 3 1).length = Z) := show _ = _ by rw [turnZ_length]; exact l6.out
  obtain ⟨L9, hL9⟩ : ∃ L9, L9 = turnZ (L6) z 3 1 := ⟨_, rfl⟩
  rw [← hL9] at Y9 hs9 l9
  have F9 : Hid (stZ L9 z = 1) := show _ = _ by rw [Y9.out, if_pos rfl]
  clear hL9 ho9 HS8
  have hfr : Front Z 2 L9 := front_of l9.out (by omega) (fun y => by
    rw [Y9.out, Y6.out]
    by_cases e : y = (z : Int)
    · rw [if_pos e, e, F0.out]
    · rw [if_neg e, if_neg e])
  have HI0 : Hid (SegP w9 p g s0.r L9 ∧ Front Z 2 L9 ∧ Below W1.heap.size W1 w9) := ⟨hs9, hfr, hB9⟩
  clear hs9 hB9 hfr Y6 Y9 l6 l9 F6 F9 F0 l0 e0
  go_wp2_with fail
  go_loopw [12] (fun i wr => ∃ (k : Nat) (L : List Int), i = .int .i64 k ∧ 2 ≤ k ∧ k ≤ z + 1 ∧ SegP wr p g s0.r L ∧ Front Z k L ∧ Below W1.heap.size W1 wr) (fun i wr => z + 1 - (intOf i).toNat)
  case atStart => exact ⟨2, _, rfl, by omega, by omega, HI0.out.1, HI0.out.2.1, HI0.out.2.2⟩
  case round =>
    obtain ⟨k, L, rfl, hk2, hkz, hsk, hfk, hBk⟩ := hrel
    have HI : Hid (SegP wr p g s0.r L ∧ Front Z k L ∧ Below W1.heap.size W1 wr ∧ 2 ≤ k) := ⟨hsk, hfk, hBk, hk2⟩
    rcases Nat.lt_or_ge z k with hgt | hle
    · have hke : k = z + 1 := by omega
      have F10 : Hid (stZ L z = 2) := front_at hfk HZ.out.2 HZ.out.1 hgt
      have l10 : Hid (L.length = Z) := hfk.1
      have HT := gState_of p g s0.r L z wr hsk
      rw [F10.out] at HT
      have hs10 := hsk
      have hB10 := hBk
      have hgt' : ¬ (k : Int) ≤ (z : Int) := by omega
      obtain ⟨w10, hw10⟩ : ∃ w10, w10 = wr := ⟨_, rfl⟩
      rw [← hw10] at hs10 hB10
      have HS10 : Hid (SegP wr p g s0.r L ∧ Below W1.heap.size W1 wr) := ⟨hsk, hBk⟩
      clear hsk hfk hBk hke hkz hgt HI hk2 hw10 hs10 hB10
      go_wp2_with fail
      refine HT.mono ?_
      clear HT
      rintro e w10 ⟨rfl, hww⟩
      have hs10 : SegP w10 p g s0.r L := by rw [hww]; exact HS10.out.1
      have hB10 : Below W1.heap.size W1 w10 := by rw [hww]; exact HS10.out.2
      clear hww HS10
      have HT := gClear_of p g s0.r _ z w10 hs10
      have HS10 : Hid (SegP w10 p g s0.r (L) ∧ Below W1.heap.size W1 w10) := ⟨hs10, hB10⟩
      clear hs10 hB10
      go_wp2_with fail
      refine HT.mono ?_
      clear HT
      rintro e w11 ⟨rfl, hs11, ho11⟩
      rw [(turn_no F10.out (by decide)).1] at hs11
      rw [(turn_no F10.out (by decide) (b := 0)).2]
      have hB11 := HX.out HS10.out.2 ho11
      clear ho11 HS10
      have HT := gFound_of p g s0.r _ z w11 hs11
      have HS11 : Hid (SegP w11 p g s0.r (L) ∧ Below W1.heap.size W1 w11) := ⟨hs11, hB11⟩
      clear hs11 hB11
      go_wp2_with fail
      refine HT.mono ?_
      clear HT
      rintro e w12 ⟨rfl, hs12, ho12⟩
      rw [(turn_no F10.out (by decide)).1] at hs12
      rw [(turn_no F10.out (by decide) (b := 0)).2]
      have hB12 := HX.out HS11.out.2 ho12
      clear ho12 HS11
      have HT := gFill_of p g s0.r _ z w12 hs12
      have HS12 : Hid (SegP w12 p g s0.r (L) ∧ Below W1.heap.size W1 w12) := ⟨hs12, hB12⟩
      clear hs12 hB12
      go_wp2_with fail
      refine HT.mono ?_
      clear HT
      rintro e w13 ⟨rfl, hs13, ho13⟩
      rw [(turn_yes F10.out (by decide) (b := 0)).2]
      have hB13 := HX.out HS12.out.2 ho13
      have Y13 : Hid (∀ y, stZ (turnZ (L) z 2 3) y = if y = (z : Int) then 3 else stZ (L) y) := (turn_yes F10.out (by decide)).1
      have l13 : Hid ((turnZ (L) z 2 3).length = Z) := show _ = _ by rw [turnZ_length]; exact l10.out
      obtain ⟨L13, hL13⟩ : ∃ L13, L13 = turnZ (L) z 2 3 := ⟨_, rfl⟩
      rw [← hL13] at Y13 hs13 l13
      have F13 : Hid (stZ L13 z = 3) := show _ = _ by rw [Y13.out, if_pos rfl]
      clear hL13 ho13 HS12
      have HT := gState_of p g s0.r _ z w13 hs13
      rw [F13.out] at HT
      have HE : Hid (Below W1.heap.size W1 w13) := hB13
      clear hs13 hB13
      go_wp2_with fail
      refine HT.mono ?_
      clear HT
      rintro e w14 ⟨rfl, hww⟩
      have HE2 : Hid (Below W1.heap.size W1 w14) := by rw [hww]; exact HE
      clear hww
      go_wp2
      go_ret
      exact ⟨rfl, HO.out HE2.out⟩
    · have HT := gTake_of p g s0.r L wr hsk
      have hle' : (k : Int) ≤ (z : Int) := by omega
      have hw : IntKind.i64.wrap ((k : Int) + 1) = (k : Int) + 1 := by rw [IntKind.wrap_i64]; omega
      have HK : Hid (k ≤ z) := hle
      clear hsk hfk hBk hkz hle hk2
      go_wp2_with fail
      refine HT.mono ?_
      clear HT
      rintro e w2 ⟨rfl, hs2, ho2⟩
      have HJ : Hid (SegP w2 p g s0.r (takeZ L) ∧ Front Z (k + 1) (takeZ L) ∧ Below W1.heap.size W1 w2) := ⟨hs2, front_take HI.out.2.1 HI.out.2.2.2 (by have := HK.out; have := HZ.out.2; omega), HX.out HI.out.2.2.1 ho2⟩
      clear hs2 ho2
      generalize takeI L = TI
      generalize takeB L = TB
      go_wp2
      go_roundw
      case rel => exact ⟨k + 1, _, by simp, by have := HI.out.2.2.2; omega, by have := HK.out; omega, HJ.out.1, HJ.out.2.1, HJ.out.2.2⟩
      case measure => have := HK.out; simp [intOf]; omega

set_option maxRecDepth 100000 in
theorem lifted (os : Os) (started : os.Started) (H : Type) (enc : TypeId × Value → H) :
    ReturnsInHanded {} Try.checked os 5 .any (Rows.segTurnsSpec.pre6 enc Try.prog Try.f5 Rows.segTurnsRow.domain false) (Rows.segTurnsSpec.post enc Try.prog Try.f5 false true false false) := by
  refine returnsInHanded_of_change (C := Try.checked) own started (by kernel_rfl) Try.func5
    (ChangeSpec.witness6 (enc := enc) (C := Try.checked) false ⟨#[], #[.agg #[.int .i64 0, .int .i64 0, .int .i64 0, .int .i64 0], .int .i64 0], []⟩ 8 (by kernel_rfl) (by kernel_rfl) (by kernel_rfl) (by kernel_rfl)) ?_
  intro W base args ds gs before hval0 hW hcnd _
  have hval : ∀ (j : Nat) t v, Try.f5.params[j]? = some t → args[j]? = some v → Value.okWide Try.prog W .any base t v := hval0
  have hW' := hW
  obtain ⟨p, q, hA0, hV, rfl, hfz, hnd⟩ := hW
  have hA : DataW.TrodAll enc Try.prog W 0 (fun _ => true) true Try.f5.params.toList args.toList ds p := hA0
  rw [Try.params5] at hA hval
  obtain ⟨v0, vs0, d0, ds0, p0, q0, hargs, rfl, rfl, h0, r0⟩ := trodAll_cons hA
  obtain ⟨v1, vs1, d1, ds1, p1, q1, rfl, rfl, rfl, h1, r1⟩ := trodAll_cons r0
  obtain ⟨rfl, rfl, rfl⟩ := trodAll_nil r1
  obtain rfl : args = #[v0, v1] := by cases args; simp_all
  obtain ⟨rfl, rfl⟩ := trodVars_none hV
  have k0 := h0
  have lt0 : ∀ x ∈ p0, x.block < W.heap.size := by obtain ⟨m, hm⟩ := k0; exact DataW.trod_lt m _ _ _ hm
  obtain ⟨s0, rfl, w0⟩ := open_shape (hval 0 23 v0 rfl rfl) h0
  obtain ⟨a1, rfl, rfl, rfl, w1⟩ := open_int Try.underlying3 (hval 1 3 v1 rfl rfl) h1
  clear hA0 hval0
  refine (walk s0 a1 W w0 w1).mono fun e W' ⟨he, bel⟩ => ?_
  subst he
  exact ⟨_, rfl, _, _, _, [], _, [], hW', trodAll_mk1 (shut_bool Try.underlying4 _), (trodAll_cons_mk (Below.trod laidOut (by kernel_rfl) (of_decide_eq_true (by kernel_rfl)) k0 bel lt0) (trodAll_cons_mk (shut_int Try.underlying3 w1) trodAll_mk0)), rfl, bel.frame _, fun h => by cases h⟩

theorem over : Rows.segTurnsRow.holds Try.pinned (OpenSpec.ofChange Rows.segTurnsSpec) :=
  OpenClaim.holds_of_wide 5 Try.f5 rfl rfl rfl rfl rfl rfl rfl ⟨rfl, rfl, rfl, rfl, rfl⟩ rfl rfl rfl rfl rfl (by kernel_rfl) Try.func5 (by kernel_rfl)
    (of_decide_eq_true (by kernel_rfl)) (by unfold Func.isWrapper; first | (rw [if_pos (by decide +kernel)]; kernel_rfl) | (rw [if_neg (by decide +kernel)]; exact ⟨rfl, rfl⟩))
    (fun os started H enc _ => lifted os started H enc)

end Go.Proofs.Ytofccgcddomcfaa.segTurns
namespace Go.Proofs.Ytofccgcddomcfaa
/-- The statement. -/
theorem segTurns_holds : Rows.SegTurnsSaid := segTurns.over
#print axioms segTurns_holds
end Go.Proofs.Ytofccgcddomcfaa
