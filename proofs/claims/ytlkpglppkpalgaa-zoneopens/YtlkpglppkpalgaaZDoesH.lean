/- What one call of does does: Read, Flush, Reset, Crash. -/
import Derived.Test.YtlkpglppkpalgaaZDoesK
namespace Go.Proofs.Ytlkpglppkpalgaa
open Go.RowKit Go.Shelf
set_option linter.unusedVariables false
set_option maxHeartbeats 8000000 in
set_option maxRecDepth 20000 in
theorem does_hi {w W : World} {p r : Nat} {s : Sh} {zs : List Zn} {o : Opn} {vs : List Value} (h : Two w W p r s zs zs) (hw : Wf s zs) (hop : OpV w o vs) (hfl : o.f.length ≤ 200) (h4 : 4 ≤ o.k % 8) :
    Calls Try.prog 14 #[.pointer (some ⟨p, 0, none⟩), .pointer (some ⟨r, 0, none⟩), .agg (shL s).toArray, .agg vs.toArray] W fun e w' => e = .returned (.bool true) ∧ Two w w' p r s (doZ s zs o) (doZ s zs o) := by
  obtain ⟨O1, O2, T0⟩ := h
  obtain ⟨A, L, C, B, M, E, rfl, hF, hFn, hLs, hk8⟩ := hop
  obtain ⟨q, hq⟩ : ∃ q, q = W.heap.size := ⟨_, rfl⟩
  have hsb := power_bounds hw.right.2.2.2.2.1
  obtain ⟨S, hS⟩ : ∃ S : Nat, s.b = S := ⟨s.b.toNat, by omega⟩
  have bS : Blk ((W.alloc (.cells #[.int .i64 s.z, .int .i64 s.zb, .int .i64 s.b, .int .i64 s.r] 23)).alloc (.cells #[.int .u8 o.k, .int .i64 o.z, .int .i64 o.n, .slice A L C, .slice B M E] 36)) q (shL s) 23 := (Blk.new' hq.symm rfl).alloc _
  have bO : Blk ((W.alloc (.cells #[.int .i64 s.z, .int .i64 s.zb, .int .i64 s.b, .int .i64 s.r] 23)).alloc (.cells #[.int .u8 o.k, .int .i64 o.z, .int .i64 o.n, .slice A L C, .slice B M E] 36)) (q + 1) (opL o A L C B M E) 36 := Blk.new' (by simp [hq]) rfl
  have hbel : Below W.heap.size W ((W.alloc (.cells #[.int .i64 s.z, .int .i64 s.zb, .int .i64 s.b, .int .i64 s.r] 23)).alloc (.cells #[.int .u8 o.k, .int .i64 o.z, .int .i64 o.n, .slice A L C, .slice B M E] 36)) := ((Below.refl _ _).alloc (Nat.le_refl _) _).alloc (by simp) _
  obtain ⟨Z, hZ⟩ : ∃ Z, Z = doZ s zs o := ⟨_, rfl⟩
  rw [← hZ]
  have HZ : Hid (Z = doZ s zs o) := hZ
  have HSb : Hid (s.b = S ∧ 64 ≤ S ∧ S ≤ 4096) := ⟨hS, by omega, by omega⟩
  clear hS hZ hsb
  simp only [shL]
  go_enter Try.func14, Try.ntmps14
  go_upto_region 1 with fail
  rw [← hq]
  generalize hW1 : World.alloc (World.alloc _ _) _ = W1 at *
  have T1 := T0.under hbel
  have keep : ∀ {V : World}, Out (fun x => O1 x ∨ O2 x ∨ W1.heap.size ≤ x) W1 V → DoK s o A L C B M E q V := by
    intro V hV
    have h1 := hV.blk bS (by rintro (h | h | h); have := (T0.o1 q h).2; omega; have := (T0.o2 q h).2; omega; have := bS.lt; omega)
    have h2 := hV.blk bO (by rintro (h | h | h); have := (T0.o1 _ h).2; omega; have := (T0.o2 _ h).2; omega; have := bO.lt; omega)
    exact ⟨h1.cell 2, h2.cell 0, h2.cell 1, h2.cell 2, h2.cell 3, h2.cell 4⟩
  have HK : Hid (∀ {V : World}, Out (fun x => O1 x ∨ O2 x ∨ W1.heap.size ≤ x) W1 V → DoK s o A L C B M E q V) := keep
  obtain ⟨s2, c0, c1, c2, c3, c4⟩ := keep (Out.refl _ W1)
  have HT : Hid (TwoO w O1 O2 W1 p r s zs zs ∧ Wf s zs ∧ BIn w A L o.f ∧ (A = none → L = 0 ∧ C = 0) ∧ LsIn w B M o.l ∧ s.b = S ∧ o.f.length = L ∧ o.f.length ≤ 200 ∧ 64 ≤ S ∧ S ≤ 4096) := ⟨T1, hw, hF, hFn, hLs, HSb.out.1, hF.1, hfl, HSb.out.2⟩
  have hk0 := hk8.1
  have hk1 := hk8.2
  have htm : o.k.tmod 8 = o.k % 8 := Int.tmod_eq_emod_of_nonneg hk0
  have hcase : o.k % 8 = 4 ∨ o.k % 8 = 5 ∨ o.k % 8 = 6 ∨ o.k % 8 = 7 := by omega
  clear h4
  rw [HSb.out.1] at s2
  clear bS bO hbel hW1 T0 T1 keep hF hFn hLs hk8 hw hfl hq
  rcases hcase with hk | hk | hk | hk
  · have htt : o.k.tmod 8 = 4 := by rw [htm]; exact hk
    clear htm
    have hd : Hid (Z = zs) := by
      show Z = _
      rw [HZ.out]; simp [doZ, hk]
    obtain ⟨R, hR⟩ : ∃ R, R = rdE zs o.z o.n := ⟨_, rfl⟩
    have hRs := rdE_small zs o.z o.n
    have hcv : IntKind.i64.wrap R = R := by rw [IntKind.wrap_i64, hR]; omega
    have HR : Hid (R = rdE zs o.z o.n) := hR
    clear hR hRs hk0 hk1
    go_wp2_with (first
      | (go_at_call 30; refine (read_of o.z o.n HT.out.1.d HT.out.2.1).mono ?_; rintro e w2 ⟨h2, rfl, bk2, b2⟩; rw [← HR.out]; obtain ⟨ra, rc, e2⟩ := own_slice bk2.1; subst e2; have K2 := HK.out (below_out _ b2); have d1 := K2.c1; have d2 := K2.c2)
      | (go_at_call 33; refine (rRead_of o.z o.n (HT.out.1.under b2).r HT.out.2.1).mono ?_; rintro e w3 ⟨h3, rfl, bk3, b3⟩; rw [← HR.out]; obtain ⟨rb, rd, e3⟩ := own_slice bk3.1; subst e3)
      | (go_at_call 31; refine (sameBytes_of _ _ _ (rdB zs o.z o.n) _ _ _ _ (bk2.bin.1.below b3) bk3.bin.1).mono ?_; rintro e w4 ⟨rfl, rfl⟩))
    go_ret
    exact ⟨by simp, O1, O2, by rw [hd.out]; exact (HT.out.1.under b2).under b3⟩
  · have htt : o.k.tmod 8 = 5 := by rw [htm]; exact hk
    clear htm
    have hd : Hid (Z = flushZ zs) := by
      show Z = _
      rw [HZ.out]; simp [doZ, hk]
    clear hk0 hk1
    go_wp2_with (first
      | (go_at_call 32; refine (flush_of HT.out.1.d).mono ?_; rintro e w2 ⟨⟨v2, rfl⟩, st2⟩; have T2 := HT.out.1.stepD st2)
      | (go_at_call 34; refine (rFlush_of T2.r).mono ?_; rintro e w3 ⟨⟨v3, rfl⟩, st3⟩; have T3 := T2.stepR st3))
    go_ret
    exact ⟨rfl, _, _, by rw [hd.out]; exact T3⟩
  · have htt : o.k.tmod 8 = 6 := by rw [htm]; exact hk
    clear htm
    have hd : Hid (Z = resetZ zs o.z) := by
      show Z = _
      rw [HZ.out]; simp [doZ, hk]
    obtain ⟨R, hR⟩ : ∃ R, R = resetE zs o.z := ⟨_, rfl⟩
    have hRs := resetE_small zs o.z
    have hcv : IntKind.i64.wrap R = R := by rw [IntKind.wrap_i64, hR]; omega
    have HR : Hid (R = resetE zs o.z) := hR
    have TD := HT.out.1.under (Below.refl W1.heap.size W1).drew
    have HTD : Hid (TwoO w O1 O2 W1.drew p r s zs zs) := TD
    clear hR hRs hk0 hk1 TD
    go_upto_region 21 with fail
    refine wp_region_noPanic ?_
    go_region_law (first
      | (go_simp; go_at_call 27; refine (reset_of o.z HTD.out.d).mono ?_; rintro e w2 ⟨rfl, st2⟩; rw [← HR.out]; have T2 := HTD.out.stepD st2; have K2 := HK.out (V := w2) ((out_drew st2.2).mono (fun x hx _ => .inl hx)); have d1 := K2.c1)
      | (go_simp; go_at_call 35; refine (rReset_of o.z T2.r).mono ?_; rintro e w3 ⟨rfl, st3⟩; rw [← HR.out]; have T3 := T2.stepR st3))
    all_goals
      refine NoPanic.normal ?_
      go_wp2
      go_ret
      exact ⟨(by first | rfl | simp), _, _, by rw [hd.out]; exact T3⟩
  · have htt : o.k.tmod 8 = 7 := by rw [htm]; exact hk
    clear htm
    have hd : Hid (Z = crashZ o.l zs) := by
      show Z = _
      rw [HZ.out]; simp [doZ, hk]
    clear hk0 hk1
    go_wp2_with (first
      | (go_at_call 26; refine (crash_of B M E o.l HT.out.1.d HT.out.2.1 (HT.out.2.2.2.2.1.below HT.out.1.bel) (fun hM ad e hO => by have := ls_low HT.out.2.2.2.2.1 hM ad e; have := (HT.out.1.o1 _ hO).1; omega)).mono ?_; rintro e w2 ⟨⟨v2, rfl⟩, st2⟩; have T2 := HT.out.1.stepD st2; have K2 := HK.out (V := w2) (st2.2.mono (fun x hx _ => .inl hx)); have d4 := K2.c4)
      | (go_at_call 36; refine (rCrash_of B M E o.l T2.r HT.out.2.1 (HT.out.2.2.2.2.1.below T2.bel) (fun hM ad e hO => by have := ls_low HT.out.2.2.2.2.1 hM ad e; have := (T2.o2 _ hO).1; omega)).mono ?_; rintro e w3 ⟨⟨v3, rfl⟩, st3⟩; have T3 := T2.stepR st3))
    go_ret
    exact ⟨rfl, _, _, by rw [hd.out]; exact T3⟩
end Go.Proofs.Ytlkpglppkpalgaa
