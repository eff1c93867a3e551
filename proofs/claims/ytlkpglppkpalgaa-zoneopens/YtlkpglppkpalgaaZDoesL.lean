/- What one call of does does: Append. -/
import Derived.Test.YtlkpglppkpalgaaZDoesK
import Derived.Test.YtlkpglppkpalgaaZDoesH
namespace Go.Proofs.Ytlkpglppkpalgaa
open Go.RowKit Go.Shelf
set_option linter.unusedVariables false
set_option maxHeartbeats 8000000 in
set_option maxRecDepth 20000 in
theorem does_lo {w W : World} {p r : Nat} {s : Sh} {zs : List Zn} {o : Opn} {vs : List Value} (h : Two w W p r s zs zs) (hw : Wf s zs) (hop : OpV w o vs) (hfl : o.f.length ≤ 200) (h4 : o.k % 8 < 4) :
    Calls Try.prog 14 #[.pointer (some ⟨p, 0, none⟩), .pointer (some ⟨r, 0, none⟩), .agg (shL s).toArray, .agg vs.toArray] W fun e w' => e = .returned (.bool true) ∧ Two w w' p r s (doZ s zs o) (doZ s zs o) := by
  obtain ⟨O1, O2, T0⟩ := h
  obtain ⟨A, L, C, B, M, E, rfl, hF, hFn, hLs, hk8⟩ := hop
  obtain ⟨q, hq⟩ : ∃ q, q = W.heap.size := ⟨_, rfl⟩
  have hsb := power_bounds hw.right.2.2.2.2.1
  obtain ⟨S, hS⟩ : ∃ S : Nat, s.b = S := ⟨s.b.toNat, by omega⟩
  have bS : Blk ((W.alloc (.cells #[.int .i64 s.z, .int .i64 s.zb, .int .i64 s.b, .int .i64 s.r] 23)).alloc (.cells #[.int .u8 o.k, .int .i64 o.z, .int .i64 o.n, .slice A L C, .slice B M E] 36)) q (shL s) 23 := (Blk.new' hq.symm rfl).alloc _
  have bO : Blk ((W.alloc (.cells #[.int .i64 s.z, .int .i64 s.zb, .int .i64 s.b, .int .i64 s.r] 23)).alloc (.cells #[.int .u8 o.k, .int .i64 o.z, .int .i64 o.n, .slice A L C, .slice B M E] 36)) (q + 1) (opL o A L C B M E) 36 := Blk.new' (by simp [hq]) rfl
  have hbel : Below W.heap.size W ((W.alloc (.cells #[.int .i64 s.z, .int .i64 s.zb, .int .i64 s.b, .int .i64 s.r] 23)).alloc (.cells #[.int .u8 o.k, .int .i64 o.z, .int .i64 o.n, .slice A L C, .slice B M E] 36)) := ((Below.refl _ _).alloc (Nat.le_refl _) _).alloc (by simp) _
  obtain ⟨Z, hZ⟩ : ∃ Z, Z = doZ s zs o := ⟨_, rfl⟩
  rw [← hZ]
  have HZ : Hid (Z = doZ s zs o) := hZ
  have HSb : Hid (s.b = S ∧ 64 ≤ S ∧ S ≤ 4096) := ⟨hS, by omega, by omega⟩
  clear hS hZ hsb
  simp only [shL]
  go_enter Try.func14, Try.ntmps14
  go_upto_region 1 with fail
  rw [← hq]
  generalize hW1 : World.alloc (World.alloc _ _) _ = W1 at *
  have T1 := T0.under hbel
  have keep : ∀ {V : World}, Out (fun x => O1 x ∨ O2 x ∨ W1.heap.size ≤ x) W1 V → DoK s o A L C B M E q V := by
    intro V hV
    have h1 := hV.blk bS (by rintro (h | h | h); have := (T0.o1 q h).2; omega; have := (T0.o2 q h).2; omega; have := bS.lt; omega)
    have h2 := hV.blk bO (by rintro (h | h | h); have := (T0.o1 _ h).2; omega; have := (T0.o2 _ h).2; omega; have := bO.lt; omega)
    exact ⟨h1.cell 2, h2.cell 0, h2.cell 1, h2.cell 2, h2.cell 3, h2.cell 4⟩
  have HK : Hid (∀ {V : World}, Out (fun x => O1 x ∨ O2 x ∨ W1.heap.size ≤ x) W1 V → DoK s o A L C B M E q V) := keep
  obtain ⟨s2, c0, c1, c2, c3, c4⟩ := keep (Out.refl _ W1)
  have HT : Hid (TwoO w O1 O2 W1 p r s zs zs ∧ Wf s zs ∧ BIn w A L o.f ∧ (A = none → L = 0 ∧ C = 0) ∧ LsIn w B M o.l ∧ s.b = S ∧ o.f.length = L ∧ o.f.length ≤ 200 ∧ 64 ≤ S ∧ S ≤ 4096) := ⟨T1, hw, hF, hFn, hLs, HSb.out.1, hF.1, hfl, HSb.out.2⟩
  have hk0 := hk8.1
  have hk1 := hk8.2
  have htm : o.k.tmod 8 = o.k % 8 := Int.tmod_eq_emod_of_nonneg hk0
  have hcase : o.k % 8 < 3 ∨ o.k % 8 = 3 := by omega
  clear h4
  rw [HSb.out.1] at s2
  clear bS bO hbel hW1 T0 T1 keep hF hFn hLs hk8 hw hfl hq
  rcases hcase with hk | hk
  · have HD : Hid (opB s o = blockB S o.f ∧ Z = appZ s zs o.z (opB s o)) := by
      refine ⟨?_, ?_⟩
      · unfold opB; rw [if_pos hk, HSb.out.1, Int.toNat_natCast]
      · rw [HZ.out]; unfold doZ; rw [if_neg (by omega), if_neg (by omega), if_neg (by omega), if_neg (by omega)]
    have ht3 : decide (o.k.tmod 8 < 3) = true := by rw [htm]; simp; omega
    have ht4 : (o.k.tmod 8 == 4) = false := by rw [htm]; simp; omega
    have ht5 : (o.k.tmod 8 == 5) = false := by rw [htm]; simp; omega
    have ht6 : (o.k.tmod 8 == 6) = false := by rw [htm]; simp; omega
    have ht7 : (o.k.tmod 8 == 7) = false := by rw [htm]; simp; omega
    obtain ⟨R, hR⟩ : ∃ R, R = appE s zs o.z (opB s o) := ⟨_, rfl⟩
    have hRs := appE_small s zs o.z (opB s o)
    have hcv : IntKind.i64.wrap R = R := by rw [IntKind.wrap_i64, hR]; omega
    have HR : Hid (R = appE s zs o.z (opB s o)) := hR
    clear hR hRs htm hk0 hk1 hk
    go_upto_region 8 with (first
      | (go_at_call 28; refine (block_of S A L C o.f _ (HT.out.2.2.1.below HT.out.1.bel) (by have := HSb.out.2; omega) (by have := HT.out.2.2.2.2.2.2; omega)).mono ?_; rintro e w2 ⟨qb, rfl, bk2, b2, gb2⟩; rw [← HD.out.1] at bk2; have T2 := HT.out.1.under b2; have D2 := dat_bk (O1 := O1) (O2 := O2) bk2 (fun x hx => (HT.out.1.o1 x hx).2) (fun x hx => (HT.out.1.o2 x hx).2) gb2 HSb.out.2.2; have bn2 := bk2.bin.1; have nl2 : (some ⟨qb, 0, none⟩ : Option Addr) = none → S = 0 ∧ S = 0 := (fun h => by cases h))
      | (go_at_call 37; refine (lentBytes_of _ _ _ (opB s o) _ bn2 nl2 (by have := D2.1; omega)).mono ?_; rintro e w3 ⟨h3, rfl, bk3, b3⟩; obtain ⟨oa, oc, e3⟩ := own_slice bk3.1; subst e3; have T3 := T2.under b3; have K3 := HK.out (below_out _ (b2.trans (b3.mono b2.size))); have d31 := K3.c1)
      | (go_at_call 29; refine (append_of o.z oa _ oc (opB s o) T3.d HT.out.2.1 bk3.bin.1 bk3.bin.2.1 (by have := D2.1; have := D2.2.1; omega)).mono ?_; rintro e w4 ⟨rfl, st4⟩; rw [← HR.out]; have T4 := T3.stepD st4; have o4 := ((below_out (fun x => O1 x ∨ O2 x ∨ w2.heap.size ≤ x) b3).trans st4.2 (fun x hx => .inl (.inl hx))); have K4 := HK.out (((below_out (fun x => O1 x ∨ O2 x ∨ W1.heap.size ≤ x) b2).trans o4 (fun x hx => by rcases hx with hx | hx | hx; exact .inl (.inl hx); exact .inl (.inr (.inl hx)); exact .inr (Nat.le_trans b2.size hx))).alloc (.cells #[.int .i64 (appA s zs o.z (opB s o)).1, .int .i64 (appA s zs o.z (opB s o)).2] 59)); have d41 := K4.c1)
      | (go_at_call 38; refine (rAppend_of o.z _ _ _ (opB s o) (T4.under ((Below.refl _ _).alloc (Nat.le_refl _) _)).r HT.out.2.1 (D2.2.2 _ (o4.alloc _)) nl2 (by have := D2.1; omega)).mono ?_; rintro e w6 ⟨rfl, st6⟩; rw [← HR.out]; have T6 := (T4.under ((Below.refl _ _).alloc (Nat.le_refl _) _)).stepR st6))
    generalize (appA s zs o.z (opB s o)).1 = a1 at *
    generalize (appA s zs o.z (opB s o)).2 = a2 at *
    have gow : ∀ ad, oa = some ad → w2.heap.size ≤ ad.block ∧ ad.block < w3.heap.size := fun ad e => ⟨bk3.2.1 ad.block (by rw [e]; rfl), (bk3.1.lt ad.block (by rw [e]; rfl)).2⟩
    have hs4 := st4.2.size
    have hs6 := st6.2.size
    simp only [World.size_alloc] at hs6
    have lowO1 : ∀ x, O1 x → x < w2.heap.size := fun x hx => (T2.o1 x hx).2
    have lowO2 : ∀ x, O2 x → x < w2.heap.size := fun x hx => (T2.o2 x hx).2
    have hb3s := b3.size
    have bx : Blk (w6.alloc (.cells #[.int .i64 a1, .int .i64 a2] 59)) w4.heap.size [.int .i64 a1, .int .i64 a2] 59 := (st6.2.blk (Blk.new' rfl rfl) (fun h => by have := lowO2 _ h; omega)).alloc _
    have byy : Blk (w6.alloc (.cells #[.int .i64 a1, .int .i64 a2] 59)) w6.heap.size [.int .i64 a1, .int .i64 a2] 59 := Blk.new' rfl rfl
    have ow7 : Own8 oa (opB s o).length (w6.alloc (.cells #[.int .i64 a1, .int .i64 a2] 59)) := by
      have h1 := (own8_of bk3).out st4.2 (fun ad e h => by have := gow ad e; have := lowO1 _ h; omega)
      have h2 := h1.out ((Out.refl Non w4).alloc (.cells #[.int .i64 a1, .int .i64 a2] 59)) (fun _ _ e => e)
      have h3 := h2.out st6.2 (fun ad e h => by have := gow ad e; have := lowO2 _ h; omega)
      exact h3.out ((Out.refl Non w6).alloc _) (fun _ _ e => e)
    have T7 := T6.under ((Below.refl w6.heap.size w6).alloc (Nat.le_refl _) (.cells #[.int .i64 a1, .int .i64 a2] 59))
    have HG : Hid ((∀ ad, oa = some ad → w2.heap.size ≤ ad.block ∧ ad.block < w3.heap.size) ∧ w3.heap.size ≤ w4.heap.size ∧ w4.heap.size + 1 ≤ w6.heap.size ∧ w2.heap.size ≤ w3.heap.size ∧ w.heap.size ≤ w2.heap.size ∧ (∀ x, O1 x → x < w2.heap.size) ∧ (∀ x, O2 x → x < w2.heap.size)) := ⟨gow, hs4, by omega, hb3s, T2.bel.size, lowO1, lowO2⟩
    generalize hW7 : World.alloc w6 _ = W7 at bx byy ow7 T7 ⊢
    have HT7 : Hid (TwoO w (fun x => (O1 x ∨ w3.heap.size ≤ x) ∧ x < w4.heap.size) (fun x => (O2 x ∨ (w4.alloc (.cells #[.int .i64 a1, .int .i64 a2] 59)).heap.size ≤ x) ∧ x < w6.heap.size) W7 p r s (appZ s zs o.z (opB s o)) (appZ s zs o.z (opB s o)) ∧ Blk W7 w4.heap.size [.int .i64 a1, .int .i64 a2] 59 ∧ Blk W7 w6.heap.size [.int .i64 a1, .int .i64 a2] 59 ∧ Own8 oa (opB s o).length W7) := ⟨T7, bx, byy, ow7⟩
    have hol : (opB s o).length ≤ 4096 := by have := D2.1; have := D2.2.1; omega
    clear st4 st6 o4 T2 T3 T4 T6 T7 bx byy ow7 gow hs4 hs6 lowO1 lowO2 hb3s hW7 K3 K4 d31 d41 D2 bn2 nl2 bk2 bk3 b2 b3 gb2 s2 c0 c1 c2 c3 c4
    go_wp2
    go_loopw [19] (fun x wr => ∃ i : Nat, x = .int .i64 i ∧ i ≤ (opB s o).length ∧ Out (fun x => ∃ ad, oa = some ad ∧ ad.block = x) W7 wr ∧ Own8 oa (opB s o).length wr) (fun x wr => (opB s o).length - (intOf x).toNat)
    case atStart => exact ⟨0, rfl, Nat.zero_le _, Out.refl _ _, HT7.out.2.2.2⟩
    case round =>
      obtain ⟨i, rfl, hi, ho, hw8⟩ := hrel
      by_cases hlt : i < (opB s o).length
      · obtain ⟨g, y, eg, cg, fg⟩ := hw8 i hlt
        have HN : Hid (∀ v, Out (fun x => ∃ ad, oa = some ad ∧ ad.block = x) W7 (wr.setCell ⟨g, i, none⟩ (.int .u8 v)) ∧ Own8 oa (opB s o).length (wr.setCell ⟨g, i, none⟩ (.int .u8 v))) := fun v => ⟨ho.setCell (p := ⟨g, i, none⟩) (.inl ⟨_, eg, rfl⟩) _, hw8.set eg hlt⟩
        have hlt' : (i : Int) < ((opB s o).length : Nat) := by omega
        have hwi : IntKind.i64.wrap ((i : Int) + 1) = (i : Int) + 1 := by rw [IntKind.wrap_i64]; omega
        clear hw8 ho
        subst eg
        go_wp2
        go_roundw
        case rel => exact ⟨i + 1, by simp, by omega, (HN.out _).1, (HN.out _).2⟩
        case measure => simp [intOf]; omega
      · have hge : ((opB s o).length : Int) ≤ i := by omega
        have hne : ∀ k, w3.heap.size ≤ k ∨ k < w2.heap.size → ¬ ∃ ad, oa = some ad ∧ ad.block = k := by rintro k hk ⟨ad, e, rfl⟩; have := HG.out.1 ad e; omega
        have bx' := ho.blk HT7.out.2.1 (hne _ (.inl HG.out.2.1))
        have by' := ho.blk HT7.out.2.2.1 (hne _ (.inl (by have := HG.out.2.1; have := HG.out.2.2.1; omega)))
        have HF : Hid (Two w wr p r s Z Z) := by
          rw [HD.out.2]
          refine ⟨_, _, HT7.out.1.other ho ?_ ?_ ?_⟩
          · intro x hx; refine hne x ?_; rcases hx.1 with h | h; exact .inr (HG.out.2.2.2.2.2.1 x h); exact .inl h
          · intro x hx; refine hne x ?_; rcases hx.1 with h | h; exact .inr (HG.out.2.2.2.2.2.2 x h); refine .inl ?_; have := HG.out.2.1; simp only [World.size_alloc] at h; omega
          · rintro x ⟨ad, e, rfl⟩; have := HG.out.1 ad e; have := HG.out.2.2.2.2.1; omega
        clear ho hw8 hne
        go_wp2_with (first | (refine wpList_load_mid rfl 59 (.tmp 15) rfl _ 0 rfl _ _ bx'.whole Try.underlying59 rfl Try.info_addr ?_) | (refine wpList_load_mid rfl 59 (.tmp 17) rfl _ 0 rfl _ _ by'.whole Try.underlying59 rfl Try.info_addr ?_))
        go_ret
        exact ⟨rfl, HF.out⟩
  · have HD : Hid (opB s o = o.f ∧ Z = appZ s zs o.z (opB s o)) := by
      refine ⟨?_, ?_⟩
      · unfold opB; rw [if_neg (by omega)]
      · rw [HZ.out]; unfold doZ; rw [if_neg (by omega), if_neg (by omega), if_neg (by omega), if_neg (by omega)]
    have ht3 : decide (o.k.tmod 8 < 3) = false := by rw [htm]; simp; omega
    have ht4 : (o.k.tmod 8 == 4) = false := by rw [htm]; simp; omega
    have ht5 : (o.k.tmod 8 == 5) = false := by rw [htm]; simp; omega
    have ht6 : (o.k.tmod 8 == 6) = false := by rw [htm]; simp; omega
    have ht7 : (o.k.tmod 8 == 7) = false := by rw [htm]; simp; omega
    obtain ⟨R, hR⟩ : ∃ R, R = appE s zs o.z (opB s o) := ⟨_, rfl⟩
    have hRs := appE_small s zs o.z (opB s o)
    have hcv : IntKind.i64.wrap R = R := by rw [IntKind.wrap_i64, hR]; omega
    have HR : Hid (R = appE s zs o.z (opB s o)) := hR
    clear hR hRs htm hk0 hk1 hk
    have D2 : DatIn O1 O2 W1 A L (opB s o) := by rw [HD.out.1]; exact dat_fill HT.out.1 HT.out.2.2.1 (by have := HT.out.2.2.2.2.2.2; omega)
    have bn2 : BIn W1 A L (opB s o) := D2.2.2 _ (Out.refl _ _)
    go_upto_region 8 with (first
      | (go_at_call 37; refine (lentBytes_of _ _ _ (opB s o) _ bn2 HT.out.2.2.2.1 (by have := D2.1; omega)).mono ?_; rintro e w3 ⟨h3, rfl, bk3, b3⟩; obtain ⟨oa, oc, e3⟩ := own_slice bk3.1; subst e3; have T3 := HT.out.1.under b3; have K3 := HK.out (below_out _ b3); have d31 := K3.c1)
      | (go_at_call 29; refine (append_of o.z oa _ oc (opB s o) T3.d HT.out.2.1 bk3.bin.1 bk3.bin.2.1 (by have := D2.1; have := D2.2.1; omega)).mono ?_; rintro e w4 ⟨rfl, st4⟩; rw [← HR.out]; have T4 := T3.stepD st4; have o4 := ((below_out (fun x => O1 x ∨ O2 x ∨ W1.heap.size ≤ x) b3).trans st4.2 (fun x hx => .inl (.inl hx))); have K4 := HK.out (o4.alloc (.cells #[.int .i64 (appA s zs o.z (opB s o)).1, .int .i64 (appA s zs o.z (opB s o)).2] 59)); have d41 := K4.c1)
      | (go_at_call 38; refine (rAppend_of o.z _ _ _ (opB s o) (T4.under ((Below.refl _ _).alloc (Nat.le_refl _) _)).r HT.out.2.1 (D2.2.2 _ (o4.alloc _)) HT.out.2.2.2.1 (by have := D2.1; omega)).mono ?_; rintro e w6 ⟨rfl, st6⟩; rw [← HR.out]; have T6 := (T4.under ((Below.refl _ _).alloc (Nat.le_refl _) _)).stepR st6))
    generalize (appA s zs o.z (opB s o)).1 = a1 at *
    generalize (appA s zs o.z (opB s o)).2 = a2 at *
    have gow : ∀ ad, oa = some ad → W1.heap.size ≤ ad.block ∧ ad.block < w3.heap.size := fun ad e => ⟨bk3.2.1 ad.block (by rw [e]; rfl), (bk3.1.lt ad.block (by rw [e]; rfl)).2⟩
    have hs4 := st4.2.size
    have hs6 := st6.2.size
    simp only [World.size_alloc] at hs6
    have lowO1 : ∀ x, O1 x → x < W1.heap.size := fun x hx => (HT.out.1.o1 x hx).2
    have lowO2 : ∀ x, O2 x → x < W1.heap.size := fun x hx => (HT.out.1.o2 x hx).2
    have hb3s := b3.size
    have bx : Blk (w6.alloc (.cells #[.int .i64 a1, .int .i64 a2] 59)) w4.heap.size [.int .i64 a1, .int .i64 a2] 59 := (st6.2.blk (Blk.new' rfl rfl) (fun h => by have := lowO2 _ h; omega)).alloc _
    have byy : Blk (w6.alloc (.cells #[.int .i64 a1, .int .i64 a2] 59)) w6.heap.size [.int .i64 a1, .int .i64 a2] 59 := Blk.new' rfl rfl
    have ow7 : Own8 oa (opB s o).length (w6.alloc (.cells #[.int .i64 a1, .int .i64 a2] 59)) := by
      have h1 := (own8_of bk3).out st4.2 (fun ad e h => by have := gow ad e; have := lowO1 _ h; omega)
      have h2 := h1.out ((Out.refl Non w4).alloc (.cells #[.int .i64 a1, .int .i64 a2] 59)) (fun _ _ e => e)
      have h3 := h2.out st6.2 (fun ad e h => by have := gow ad e; have := lowO2 _ h; omega)
      exact h3.out ((Out.refl Non w6).alloc _) (fun _ _ e => e)
    have T7 := T6.under ((Below.refl w6.heap.size w6).alloc (Nat.le_refl _) (.cells #[.int .i64 a1, .int .i64 a2] 59))
    have HG : Hid ((∀ ad, oa = some ad → W1.heap.size ≤ ad.block ∧ ad.block < w3.heap.size) ∧ w3.heap.size ≤ w4.heap.size ∧ w4.heap.size + 1 ≤ w6.heap.size ∧ W1.heap.size ≤ w3.heap.size ∧ w.heap.size ≤ W1.heap.size ∧ (∀ x, O1 x → x < W1.heap.size) ∧ (∀ x, O2 x → x < W1.heap.size)) := ⟨gow, hs4, by omega, hb3s, HT.out.1.bel.size, lowO1, lowO2⟩
    generalize hW7 : World.alloc w6 _ = W7 at bx byy ow7 T7 ⊢
    have HT7 : Hid (TwoO w (fun x => (O1 x ∨ w3.heap.size ≤ x) ∧ x < w4.heap.size) (fun x => (O2 x ∨ (w4.alloc (.cells #[.int .i64 a1, .int .i64 a2] 59)).heap.size ≤ x) ∧ x < w6.heap.size) W7 p r s (appZ s zs o.z (opB s o)) (appZ s zs o.z (opB s o)) ∧ Blk W7 w4.heap.size [.int .i64 a1, .int .i64 a2] 59 ∧ Blk W7 w6.heap.size [.int .i64 a1, .int .i64 a2] 59 ∧ Own8 oa (opB s o).length W7) := ⟨T7, bx, byy, ow7⟩
    have hol : (opB s o).length ≤ 4096 := by have := D2.1; have := D2.2.1; omega
    clear st4 st6 o4 T3 T4 T6 T7 bx byy ow7 gow hs4 hs6 lowO1 lowO2 hb3s hW7 K3 K4 d31 d41 D2 bn2 bk3 b3 s2 c0 c1 c2 c3 c4
    go_wp2
    go_loopw [19] (fun x wr => ∃ i : Nat, x = .int .i64 i ∧ i ≤ (opB s o).length ∧ Out (fun x => ∃ ad, oa = some ad ∧ ad.block = x) W7 wr ∧ Own8 oa (opB s o).length wr) (fun x wr => (opB s o).length - (intOf x).toNat)
    case atStart => exact ⟨0, rfl, Nat.zero_le _, Out.refl _ _, HT7.out.2.2.2⟩
    case round =>
      obtain ⟨i, rfl, hi, ho, hw8⟩ := hrel
      by_cases hlt : i < (opB s o).length
      · obtain ⟨g, y, eg, cg, fg⟩ := hw8 i hlt
        have HN : Hid (∀ v, Out (fun x => ∃ ad, oa = some ad ∧ ad.block = x) W7 (wr.setCell ⟨g, i, none⟩ (.int .u8 v)) ∧ Own8 oa (opB s o).length (wr.setCell ⟨g, i, none⟩ (.int .u8 v))) := fun v => ⟨ho.setCell (p := ⟨g, i, none⟩) (.inl ⟨_, eg, rfl⟩) _, hw8.set eg hlt⟩
        have hlt' : (i : Int) < ((opB s o).length : Nat) := by omega
        have hwi : IntKind.i64.wrap ((i : Int) + 1) = (i : Int) + 1 := by rw [IntKind.wrap_i64]; omega
        clear hw8 ho
        subst eg
        go_wp2
        go_roundw
        case rel => exact ⟨i + 1, by simp, by omega, (HN.out _).1, (HN.out _).2⟩
        case measure => simp [intOf]; omega
      · have hge : ((opB s o).length : Int) ≤ i := by omega
        have hne : ∀ k, w3.heap.size ≤ k ∨ k < W1.heap.size → ¬ ∃ ad, oa = some ad ∧ ad.block = k := by rintro k hk ⟨ad, e, rfl⟩; have := HG.out.1 ad e; omega
        have bx' := ho.blk HT7.out.2.1 (hne _ (.inl HG.out.2.1))
        have by' := ho.blk HT7.out.2.2.1 (hne _ (.inl (by have := HG.out.2.1; have := HG.out.2.2.1; omega)))
        have HF : Hid (Two w wr p r s Z Z) := by
          rw [HD.out.2]
          refine ⟨_, _, HT7.out.1.other ho ?_ ?_ ?_⟩
          · intro x hx; refine hne x ?_; rcases hx.1 with h | h; exact .inr (HG.out.2.2.2.2.2.1 x h); exact .inl h
          · intro x hx; refine hne x ?_; rcases hx.1 with h | h; exact .inr (HG.out.2.2.2.2.2.2 x h); refine .inl ?_; have := HG.out.2.1; simp only [World.size_alloc] at h; omega
          · rintro x ⟨ad, e, rfl⟩; have := HG.out.1 ad e; have := HG.out.2.2.2.2.1; omega
        clear ho hw8 hne
        go_wp2_with (first | (refine wpList_load_mid rfl 59 (.tmp 15) rfl _ 0 rfl _ _ bx'.whole Try.underlying59 rfl Try.info_addr ?_) | (refine wpList_load_mid rfl 59 (.tmp 17) rfl _ 0 rfl _ _ by'.whole Try.underlying59 rfl Try.info_addr ?_))
        go_ret
        exact ⟨rfl, HF.out⟩
theorem does_of {w W : World} {p r : Nat} {s : Sh} {zs : List Zn} {o : Opn} {vs : List Value} (h : Two w W p r s zs zs) (hw : Wf s zs) (hop : OpV w o vs) (hfl : o.f.length ≤ 200) :
    Calls Try.prog 14 #[.pointer (some ⟨p, 0, none⟩), .pointer (some ⟨r, 0, none⟩), .agg (shL s).toArray, .agg vs.toArray] W fun e w' => e = .returned (.bool true) ∧ Two w w' p r s (doZ s zs o) (doZ s zs o) := by
  by_cases h4 : 4 ≤ o.k % 8
  · exact does_hi h hw hop hfl h4
  · exact does_lo h hw hop hfl (by omega)
end Go.Proofs.Ytlkpglppkpalgaa
