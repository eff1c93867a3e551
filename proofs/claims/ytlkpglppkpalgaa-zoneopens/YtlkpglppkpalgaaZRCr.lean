/- What one call of the document's Crash does. -/
import Derived.Test.YtlkpglppkpalgaaZRCrM
namespace Go.Proofs.Ytlkpglppkpalgaa
open Go.RowKit Go.Shelf
set_option linter.unusedVariables false
section
variable {O : Nat → Prop} {W : World} {p : Nat} {s : Sh} {zs : List Zn}
set_option maxHeartbeats 16000000 in
set_option maxRecDepth 20000 in
theorem rCrash_of (a : Option Addr) (n c : Nat) (ls : List (Int × Int)) (hd : Dv 71 O W p s zs) (hw : Wf s zs) (hl : LsIn W a n ls) (ha : n ≠ 0 → ∀ ad, a = some ad → ¬ O ad.block) :
    Calls Try.prog 36 #[.pointer (some ⟨p, 0, none⟩), .slice a n c] W fun e w' => (∃ v, e = .returned v) ∧ Step 71 O W p s (crashZ ls zs) w' := by
  obtain ⟨g, cz, vs, hv⟩ := hd
  have hsm := hv.small
  have hpb := power_bounds hw.right.2.2.2.2.1
  obtain ⟨S, hSb⟩ : ∃ S : Nat, s.b = S := ⟨s.b.toNat, by omega⟩
  have hS : 64 ≤ S ∧ S ≤ 4096 := by omega
  have HV : Hid (DvV 71 O W p s zs g cz vs ∧ Wf s zs ∧ LsIn W a n ls ∧ (n ≠ 0 → ∀ ad, a = some ad → ¬ O ad.block) ∧ s.b = S) := ⟨hv, hw, hl, ha, hSb⟩
  clear hv hw hl ha hpb hSb
  generalize hN : zs.length = N at *
  go_enter Try.func36, Try.ntmps36
  go_wp2
  go_loopw [4] (fun x wr => ∃ i : Nat, x = .int .i64 i ∧ i ≤ N ∧ (∃ vs', DvV 71 (fun x => O x ∨ W.heap.size ≤ x) wr p s (upTo (fun i z => cr1 (lossAt ls i) z) zs i) g cz vs') ∧ Out O W wr) (fun x wr => N - (intOf x).toNat)
  case atStart => exact ⟨0, rfl, Nat.zero_le _, ⟨vs, by rw [upTo_zero]; exact HV.out.1.mono (fun x h _ => .inl h)⟩, Out.refl _ _⟩
  case round =>
    obtain ⟨i, rfl, hi, ⟨vs', hv⟩, ho⟩ := hrel
    obtain ⟨w0, hw0⟩ : ∃ w0, w0 = wr := ⟨_, rfl⟩
    subst hw0
    have c4' := hv.pcell.2.2.2.2
    rw [upTo_length, hN] at c4'
    rcases Nat.lt_or_ge i N with hlt | hge
    · obtain ⟨z, hz⟩ : ∃ z, zs[i]? = some z := ⟨zs[i]'(by omega), by simp⟩
      have hz' := (upTo_get (fun i z => cr1 (lossAt ls i) z) zs i).trans hz
      obtain ⟨ua, uc, hu, hr, z0, z1⟩ := hv.at hz'
      have hi' : (i : Int) < (N : Int) := by omega
      have hw1 : IntKind.i64.wrap ((i : Int) + 1) = (i : Int) + 1 := by rw [IntKind.wrap_i64]; omega
      obtain ⟨kk, hk⟩ : ∃ kk, kk = lossAt ls i := ⟨_, rfl⟩
      obtain ⟨q, hq⟩ : ∃ q, q = w0.heap.size := ⟨_, rfl⟩
      have hzz := HV.out.2.1.zone z (List.mem_of_getElem? hz)
      obtain ⟨dn, hdn⟩ : ∃ dn : Nat, z.2 = dn := ⟨z.2.toNat, by omega⟩
      obtain ⟨m, hm0⟩ : ∃ m, m = z.1.length := ⟨_, rfl⟩
      rw [← hm0] at hu hr z0
      rw [hdn] at z1
      have hmb : m ≤ 4096 := by have := HV.out.2.1.right.2.2.2.1; omega
      have HM : Hid (z.1.length = m ∧ dn ≤ m ∧ m ≤ 4096 ∧ ∀ D ∈ z.1, (D.length : Int) = s.b) := ⟨hm0.symm, by omega, hmb, hzz.2.2.2⟩
      have HS : Hid (Out O W w0 ∧ zs[i]? = some z ∧ kk = lossAt ls i ∧ z.2 = dn ∧ q = w0.heap.size ∧ DvV 71 (fun x => O x ∨ W.heap.size ≤ x) w0 p s (upTo (fun i z => cr1 (lossAt ls i) z) zs i) g cz vs' ∧ s.b = S) := ⟨ho, hz, hk, hdn, hq, hv, HV.out.2.2.2.2⟩
      have HC0 : Hid (w0.cell? ⟨g, i * 2, none⟩ = some (.slice ua m uc) ∧ w0.cell? ⟨g, i * 2 + 1, none⟩ = some (.int .i64 dn)) := ⟨z0, z1⟩
      have HO : Hid (∀ x, q ≤ x → (fun x => O x ∨ W.heap.size ≤ x) x) := fun x hx => .inr (by have := ho.size; omega)
      have HU : Hid (vs'[i]? = some (.slice ua z.1.length uc)) := by
        have := hu
        rw [hm0] at this
        exact this
      have hls := HV.out.2.2.1.out ho HV.out.2.2.2.1
      clear hzz hz' hr hu hm0
      by_cases hin : i < n
      · have hin' : (i : Int) < n := by omega
        obtain ⟨b, off, rfl, hc⟩ := hls.2.2.2.resolve_left (by omega)
        obtain ⟨y0, y1⟩ := hc i kk (by rw [hk, lossAt, List.getD]; have : i < ls.length := by rw [hls.1]; exact hin
                                       simp [this])
        have v0 : ∀ o, (w0.alloc o).cell? ⟨b, off + i * 2, none⟩ = some (.int .i64 kk.1) := fun o => (((Below.refl w0.heap.size w0).alloc (Nat.le_refl _) o).cell (old_block y0)).trans y0
        have v1 : ∀ o, (w0.alloc o).cell? ⟨b, off + i * 2 + 1, none⟩ = some (.int .i64 kk.2) := fun o => (((Below.refl w0.heap.size w0).alloc (Nat.le_refl _) o).cell (old_block y1)).trans y1
        have HX : Hid (Blk (w0.alloc (.cells #[.int .i64 kk.1, .int .i64 kk.2] 67)) q [.int .i64 kk.1, .int .i64 kk.2] 67 ∧ Below w0.heap.size w0 (w0.alloc (.cells #[.int .i64 kk.1, .int .i64 kk.2] 67))) := ⟨Blk.new' hq.symm rfl, (Below.refl _ _).alloc (Nat.le_refl _) _⟩
        clear hls hc hz hdn hk hv ho z0 z1 y0 y1
        go_upto_region 6 with fail
        rw [← hq]
        generalize hVV : World.alloc _ _ = V at HX ⊢
        clear hVV v0 v1 hq c4'
        have lb : Blk V q [.int .i64 kk.1, .int .i64 kk.2] 67 := HX.out.1
        have HX0 : Hid (RcSt w0 (fun x => O x ∨ W.heap.size ≤ x) q kk z.1 dn 0 (.slice none 0 0) V) := by
          refine ⟨by rw [stayTo_zero]; exact RowAt.nil _ _, (fun r e => by cases e), ?_, lb⟩
          rw [HS.out.2.2.2.2.1]; exact HX.out.2
        clear lb
        have hvV := HS.out.2.2.2.2.2.1.under HX.out.2
        have c4V := hvV.pcell.2.2.2.2
        rw [upTo_length, hN] at c4V
        have z0V := (HX.out.2.cell (old_block HC0.out.1)).trans HC0.out.1
        clear hvV
        go_wp2
        clear c4V z0V
        go_loopw [6, 8] (fun o x wr2 => ∃ k : Nat, x = .int .i64 k ∧ k ≤ m ∧ RcSt w0 (fun x => O x ∨ W.heap.size ≤ x) q kk z.1 dn k o wr2) (fun o x wr2 => m - (intOf x).toNat)
        case atStart => exact ⟨0, rfl, Nat.zero_le _, HX0.out⟩
        case round =>
          obtain ⟨k, rfl, hkm, st0⟩ := hrel
          have hbw : Below w0.heap.size w0 wr := by rw [← HS.out.2.2.2.2.1]; exact st0.bel
          have hvV := HS.out.2.2.2.2.2.1.under hbw
          have c4 := hvV.pcell.2.2.2.2
          rw [upTo_length, hN] at c4
          have p2 := hvV.pcell.2.2.1
          rw [HS.out.2.2.2.2.2.2] at p2
          have z0 := (hbw.cell (old_block HC0.out.1)).trans HC0.out.1
          have z1 := (hbw.cell (old_block HC0.out.2)).trans HC0.out.2
          have l0 : wr.cell? ⟨q, 0, none⟩ = some (.int .i64 kk.1) := st0.box.cell 0
          have l1 : wr.cell? ⟨q, 1, none⟩ = some (.int .i64 kk.2) := st0.box.cell 1
          obtain ⟨oa, oc, hoe⟩ := st0.row.slice
          subst hoe
          have st : Hid (RcSt w0 (fun x => O x ∨ W.heap.size ≤ x) q kk z.1 dn k (.slice oa (stayTo z.1 dn kk k).length oc) wr) := st0
          rcases Nat.lt_or_ge k m with hlt2 | hge2
          · obtain ⟨D, hD⟩ : ∃ D, z.1[k]? = some D := ⟨z.1[k]'(by rw [HM.out.1]; exact hlt2), by simp⟩
            obtain ⟨b2, A2, L2, C2, hua, y0, hbk2⟩ := hvV.blockAt ((upTo_get (fun i z => cr1 (lossAt ls i) z) zs i).trans HS.out.2.1) HU.out hD
            subst hua
            have HH : Hid (BkAt (fun x => O x ∨ W.heap.size ≤ x) wr (.slice A2 L2 C2) D) := hbk2
            have HZ : Hid (zs[i]? = some z ∧ z.1[k]? = some D ∧ D.length = S) := ⟨HS.out.2.1, hD, by have h1 := HM.out.2.2.2 D (List.mem_of_getElem? hD); have h2 := HS.out.2.2.2.2.2.2; rw [h2] at h1; omega⟩
            have hk' : (k : Int) < m := by omega
            have hw2 : IntKind.i64.wrap ((k : Int) + 1) = (k : Int) + 1 := by rw [IntKind.wrap_i64]; omega
            have hws : IntKind.i64.wrap ((k : Int) - dn) = (k : Int) - dn := by have := HM.out.2.1; rw [IntKind.wrap_i64]; omega
            clear hbk2 hD hvV hbw st0
            by_cases hA1 : (k : Int) - dn < 0
            · obtain ⟨a9, c9, w9, e9, s9⟩ := st.out.app (HO.out) HH.out rfl (by omega) (stayTo_low (by omega) HZ.out.2.1)
              have HR : Hid ((Builtin.append_ #[47, 47] 47 #[.slice oa (stayTo z.1 dn kk k).length oc, .slice (some ⟨wr.heap.size, 0, none⟩) 1 1]).run Try.prog (wr.alloc (.cells #[.slice A2 L2 C2] 33)) = .ok (.slice a9 ((stayTo z.1 dn kk k).length + 1) c9) w9 ∧ RcSt w0 (fun x => O x ∨ W.heap.size ≤ x) q kk z.1 dn (k + 1) (.slice a9 ((stayTo z.1 dn kk k).length + 1) c9) w9) := ⟨e9, s9⟩
              clear e9 s9
              go_wp2_with (at_builtin; refine wpList_append_run rfl (.tmp 74) (.tmp 76) 47 47 rfl _ _ rfl rfl _ _ HR.out.1 ?_)
              go_roundw
              case rel => exact ⟨k + 1, by simp, by omega, HR.out.2⟩
              case measure => simp [intOf]; omega
            · by_cases hA2 : (k : Int) - dn < kk.1
              · obtain ⟨a9, c9, w9, e9, s9⟩ := st.out.app (HO.out) HH.out rfl (by omega) (stayTo_low (by omega) HZ.out.2.1)
                have HR : Hid ((Builtin.append_ #[47, 47] 47 #[.slice oa (stayTo z.1 dn kk k).length oc, .slice (some ⟨wr.heap.size, 0, none⟩) 1 1]).run Try.prog (wr.alloc (.cells #[.slice A2 L2 C2] 33)) = .ok (.slice a9 ((stayTo z.1 dn kk k).length + 1) c9) w9 ∧ RcSt w0 (fun x => O x ∨ W.heap.size ≤ x) q kk z.1 dn (k + 1) (.slice a9 ((stayTo z.1 dn kk k).length + 1) c9) w9) := ⟨e9, s9⟩
                clear e9 s9
                go_wp2_with (at_builtin; refine wpList_append_run rfl (.tmp 74) (.tmp 76) 47 47 rfl _ _ rfl rfl _ _ HR.out.1 ?_)
                go_roundw
                case rel => exact ⟨k + 1, by simp, by omega, HR.out.2⟩
                case measure => simp [intOf]; omega
              · rcases Int.lt_or_le kk.1 0 with hK | hK
                · by_cases hm : (k : Int) - dn = 0
                  · have hme : (((k : Int) - dn) == 0) = true := by simp [hm]
                    by_cases ht : 0 < kk.2
                    · have hTd : decide (0 < kk.2) = true := by simp [ht]
                      obtain ⟨w1, hw1⟩ : ∃ w1, w1 = wr := ⟨_, rfl⟩
                      subst hw1
                      obtain ⟨qt, hqt⟩ : ∃ qt, qt = w1.heap.size := ⟨_, rfl⟩
                      have hmk := run_make_row' (P := Try.prog) 33 5 (.int .u8 0) 1 Try.underlying33 Try.zero_u8 rfl .i64 .i64 S (by omega) (by omega)
                      have hbt := made_bytes S w1
                      rw [← hqt] at hbt
                      have H0 : Hid (Blk (w1.alloc (.cells (madeCells #[.int .u8 0] S) 5)) qt (u8s (blockTo S D 0)) 5 ∧ Below qt w1 (w1.alloc (.cells (madeCells #[.int .u8 0] S) 5))) := ⟨by simpa [blockTo] using hbt, (Below.refl _ _).alloc (by omega) _⟩
                      have HT : Hid (qt = w1.heap.size) := hqt
                      clear hbt
                      go_upto_region 17 with fail
                      rw [← hqt]
                      generalize hVV : World.alloc w1 _ = V1 at H0 ⊢
                      clear hVV hmk hqt
                      go_wp2
                      go_loopw [12] (fun x wr3 => ∃ j : Nat, x = .int .i64 j ∧ j ≤ S ∧ (j : Int) ≤ kk.2 ∧ Blk wr3 qt (u8s (blockTo S D j)) 5 ∧ Below qt w1 wr3) (fun x wr3 => S - (intOf x).toNat)
                      case atStart => exact ⟨0, rfl, Nat.zero_le _, by omega, H0.out.1, H0.out.2⟩
                      case round =>
                        obtain ⟨j, rfl, hj, hjT, hbk, hbl⟩ := hrel
                        have hbw : Below w1.heap.size w1 wr := by rw [← HT.out]; exact hbl
                        have y2 := (hbw.cell (old_block p2)).trans p2
                        have yl := (hbw.cell (old_block l1)).trans l1
                        have hfin : Hid (¬ (j < S ∧ (j : Int) < kk.2) → ∃ a9 c9 w9, (Builtin.append_ #[47, 47] 47 #[.slice oa (stayTo z.1 dn kk k).length oc, .slice (some ⟨wr.heap.size, 0, none⟩) 1 1]).run Try.prog (wr.alloc (.cells #[.slice (some ⟨qt, 0, none⟩) S S] 33)) = .ok (.slice a9 ((stayTo z.1 dn kk k).length + 1) c9) w9 ∧ RcSt w0 (fun x => O x ∨ W.heap.size ≤ x) q kk z.1 dn (k + 1) (.slice a9 ((stayTo z.1 dn kk k).length + 1) c9) w9) := by
                          intro hd
                          have hDl := HZ.out.2.2
                          have ej : j = min kk.2.toNat D.length := by omega
                          have est : blockTo S D j = tornL D (min kk.2.toNat D.length) := by rw [← hDl, blockTo_torn, ← ej]
                          rw [est] at hbk
                          have hl9 : (tornL D (min kk.2.toNat D.length)).length = S := by rw [tornL_length (by omega)]; exact hDl
                          have hq9 : q ≤ qt := by have := st.out.box.lt; have := HT.out; omega
                          refine (st.out.under hbw).app HO.out (D := tornL D (min kk.2.toNat D.length)) ⟨?_, fun x hx => by cases hx; exact HO.out _ hq9, tornL_fits HH.out.2.2.1, by omega⟩ rfl (by omega) (stayTo_mid (by omega) HZ.out.2.1 (by omega))
                          rw [hl9]
                          exact blk_own 0 hbk (by rw [u8s_length, hl9]) (by unfold maxLen; omega) (Nat.zero_le _)
                        by_cases hj1 : j < S
                        · by_cases hj2 : (j : Int) < kk.2
                          · obtain ⟨x, hx⟩ : ∃ x, D[j]? = some x := ⟨D[j]'(by have := HZ.out.2.2; omega), by simp⟩
                            have hin := HH.out.bin.1.below hbw
                            have hLD := HH.out.bin.2.2
                            obtain ⟨bb, off, rfl, hc⟩ := hin.2.2.2.resolve_left (by have := HZ.out.2.2; omega)
                            have hjL : j < L2 := by have := HZ.out.2.2; omega
                            have cx := hc j hjL
                            have ex : D.getD j 0 = x := by simp [List.getD, hx]
                            rw [ex] at cx
                            have h1' : (j : Int) < S := by omega
                            have h2' : (j : Int) < L2 := by omega
                            have hw3 : IntKind.i64.wrap ((j : Int) + 1) = (j : Int) + 1 := by rw [IntKind.wrap_i64]; omega
                            have cq : (wr.cell? ⟨qt, j, none⟩) = some (.int .u8 ((blockTo S D j).getD j 0)) := by
                              rw [hbk.cell]
                              have : j < (blockTo S D j).length := by rw [blockTo_length (by omega) (by have := HZ.out.2.2; omega)]; exact hj1
                              simp [u8s, List.getD, this]
                            have fq := hbk.frozen j
                            have HN : Hid (Blk (wr.setCell ⟨qt, j, none⟩ (.int .u8 x)) qt (u8s (blockTo S D (j + 1))) 5 ∧ Below qt w1 (wr.setCell ⟨qt, j, none⟩ (.int .u8 x))) := by
                              refine ⟨?_, hbl.setCell (p := ⟨qt, j, none⟩) (Nat.le_refl _) _⟩
                              have := hbk.set j (.int .u8 x)
                              rw [← blockTo_next hj1 hx]
                              simpa [u8s, List.map_set] using this
                            generalize (blockTo S D j).getD j 0 = y at cq
                            clear hbk hbl hin hc ex hfin hbw
                            go_wp2
                            go_roundw
                            case rel => exact ⟨j + 1, by simp, by omega, by omega, HN.out.1, HN.out.2⟩
                            case measure => simp [intOf]; omega
                          · have h1' : (j : Int) < S := by omega
                            have h2' : kk.2 ≤ (j : Int) := by omega
                            obtain ⟨a9, c9, w9, e9, s9⟩ := hfin.out (by omega)
                            have HR : Hid ((Builtin.append_ #[47, 47] 47 #[.slice oa (stayTo z.1 dn kk k).length oc, .slice (some ⟨wr.heap.size, 0, none⟩) 1 1]).run Try.prog (wr.alloc (.cells #[.slice (some ⟨qt, 0, none⟩) S S] 33)) = .ok (.slice a9 ((stayTo z.1 dn kk k).length + 1) c9) w9 ∧ RcSt w0 (fun x => O x ∨ W.heap.size ≤ x) q kk z.1 dn (k + 1) (.slice a9 ((stayTo z.1 dn kk k).length + 1) c9) w9) := ⟨e9, s9⟩
                            clear e9 s9 hfin hbk hbl hbw
                            go_wp2_with (at_builtin; refine wpList_append_run rfl (.tmp 116) (.tmp 118) 47 47 rfl _ _ rfl rfl _ _ HR.out.1 ?_)
                            go_roundw
                            case rel => exact ⟨k + 1, by simp, by omega, HR.out.2⟩
                            case measure => simp [intOf]; omega
                        · have h1' : (S : Int) ≤ j := by omega
                          obtain ⟨a9, c9, w9, e9, s9⟩ := hfin.out (by omega)
                          have HR : Hid ((Builtin.append_ #[47, 47] 47 #[.slice oa (stayTo z.1 dn kk k).length oc, .slice (some ⟨wr.heap.size, 0, none⟩) 1 1]).run Try.prog (wr.alloc (.cells #[.slice (some ⟨qt, 0, none⟩) S S] 33)) = .ok (.slice a9 ((stayTo z.1 dn kk k).length + 1) c9) w9 ∧ RcSt w0 (fun x => O x ∨ W.heap.size ≤ x) q kk z.1 dn (k + 1) (.slice a9 ((stayTo z.1 dn kk k).length + 1) c9) w9) := ⟨e9, s9⟩
                          clear e9 s9 hfin hbk hbl hbw
                          go_wp2_with (at_builtin; refine wpList_append_run rfl (.tmp 116) (.tmp 118) 47 47 rfl _ _ rfl rfl _ _ HR.out.1 ?_)
                          go_roundw
                          case rel => exact ⟨k + 1, by simp, by omega, HR.out.2⟩
                          case measure => simp [intOf]; omega
                    · have hTd : decide (0 < kk.2) = false := by simp [ht]
                      have ht' : kk.2 ≤ 0 := by omega
                      go_wp2
                      go_roundw
                      case rel => exact ⟨k + 1, by simp, by omega, st.out.skip (stayTo_skip (by omega) (by omega))⟩
                      case measure => simp [intOf]; omega
                  · have hme : (((k : Int) - dn) == 0) = false := by simp [hm]
                    go_wp2
                    go_roundw
                    case rel => exact ⟨k + 1, by simp, by omega, st.out.skip (stayTo_skip (by omega) (by omega))⟩
                    case measure => simp [intOf]; omega
                · by_cases hm : (k : Int) - dn = kk.1
                  · have hme : (((k : Int) - dn) == kk.1) = true := by simp [hm]
                    by_cases ht : 0 < kk.2
                    · have hTd : decide (0 < kk.2) = true := by simp [ht]
                      obtain ⟨w1, hw1⟩ : ∃ w1, w1 = wr := ⟨_, rfl⟩
                      subst hw1
                      obtain ⟨qt, hqt⟩ : ∃ qt, qt = w1.heap.size := ⟨_, rfl⟩
                      have hmk := run_make_row' (P := Try.prog) 33 5 (.int .u8 0) 1 Try.underlying33 Try.zero_u8 rfl .i64 .i64 S (by omega) (by omega)
                      have hbt := made_bytes S w1
                      rw [← hqt] at hbt
                      have H0 : Hid (Blk (w1.alloc (.cells (madeCells #[.int .u8 0] S) 5)) qt (u8s (blockTo S D 0)) 5 ∧ Below qt w1 (w1.alloc (.cells (madeCells #[.int .u8 0] S) 5))) := ⟨by simpa [blockTo] using hbt, (Below.refl _ _).alloc (by omega) _⟩
                      have HT : Hid (qt = w1.heap.size) := hqt
                      clear hbt
                      go_upto_region 17 with fail
                      rw [← hqt]
                      generalize hVV : World.alloc w1 _ = V1 at H0 ⊢
                      clear hVV hmk hqt
                      go_wp2
                      go_loopw [12] (fun x wr3 => ∃ j : Nat, x = .int .i64 j ∧ j ≤ S ∧ (j : Int) ≤ kk.2 ∧ Blk wr3 qt (u8s (blockTo S D j)) 5 ∧ Below qt w1 wr3) (fun x wr3 => S - (intOf x).toNat)
                      case atStart => exact ⟨0, rfl, Nat.zero_le _, by omega, H0.out.1, H0.out.2⟩
                      case round =>
                        obtain ⟨j, rfl, hj, hjT, hbk, hbl⟩ := hrel
                        have hbw : Below w1.heap.size w1 wr := by rw [← HT.out]; exact hbl
                        have y2 := (hbw.cell (old_block p2)).trans p2
                        have yl := (hbw.cell (old_block l1)).trans l1
                        have hfin : Hid (¬ (j < S ∧ (j : Int) < kk.2) → ∃ a9 c9 w9, (Builtin.append_ #[47, 47] 47 #[.slice oa (stayTo z.1 dn kk k).length oc, .slice (some ⟨wr.heap.size, 0, none⟩) 1 1]).run Try.prog (wr.alloc (.cells #[.slice (some ⟨qt, 0, none⟩) S S] 33)) = .ok (.slice a9 ((stayTo z.1 dn kk k).length + 1) c9) w9 ∧ RcSt w0 (fun x => O x ∨ W.heap.size ≤ x) q kk z.1 dn (k + 1) (.slice a9 ((stayTo z.1 dn kk k).length + 1) c9) w9) := by
                          intro hd
                          have hDl := HZ.out.2.2
                          have ej : j = min kk.2.toNat D.length := by omega
                          have est : blockTo S D j = tornL D (min kk.2.toNat D.length) := by rw [← hDl, blockTo_torn, ← ej]
                          rw [est] at hbk
                          have hl9 : (tornL D (min kk.2.toNat D.length)).length = S := by rw [tornL_length (by omega)]; exact hDl
                          have hq9 : q ≤ qt := by have := st.out.box.lt; have := HT.out; omega
                          refine (st.out.under hbw).app HO.out (D := tornL D (min kk.2.toNat D.length)) ⟨?_, fun x hx => by cases hx; exact HO.out _ hq9, tornL_fits HH.out.2.2.1, by omega⟩ rfl (by omega) (stayTo_mid (by omega) HZ.out.2.1 (by omega))
                          rw [hl9]
                          exact blk_own 0 hbk (by rw [u8s_length, hl9]) (by unfold maxLen; omega) (Nat.zero_le _)
                        by_cases hj1 : j < S
                        · by_cases hj2 : (j : Int) < kk.2
                          · obtain ⟨x, hx⟩ : ∃ x, D[j]? = some x := ⟨D[j]'(by have := HZ.out.2.2; omega), by simp⟩
                            have hin := HH.out.bin.1.below hbw
                            have hLD := HH.out.bin.2.2
                            obtain ⟨bb, off, rfl, hc⟩ := hin.2.2.2.resolve_left (by have := HZ.out.2.2; omega)
                            have hjL : j < L2 := by have := HZ.out.2.2; omega
                            have cx := hc j hjL
                            have ex : D.getD j 0 = x := by simp [List.getD, hx]
                            rw [ex] at cx
                            have h1' : (j : Int) < S := by omega
                            have h2' : (j : Int) < L2 := by omega
                            have hw3 : IntKind.i64.wrap ((j : Int) + 1) = (j : Int) + 1 := by rw [IntKind.wrap_i64]; omega
                            have cq : (wr.cell? ⟨qt, j, none⟩) = some (.int .u8 ((blockTo S D j).getD j 0)) := by
                              rw [hbk.cell]
                              have : j < (blockTo S D j).length := by rw [blockTo_length (by omega) (by have := HZ.out.2.2; omega)]; exact hj1
                              simp [u8s, List.getD, this]
                            have fq := hbk.frozen j
                            have HN : Hid (Blk (wr.setCell ⟨qt, j, none⟩ (.int .u8 x)) qt (u8s (blockTo S D (j + 1))) 5 ∧ Below qt w1 (wr.setCell ⟨qt, j, none⟩ (.int .u8 x))) := by
                              refine ⟨?_, hbl.setCell (p := ⟨qt, j, none⟩) (Nat.le_refl _) _⟩
                              have := hbk.set j (.int .u8 x)
                              rw [← blockTo_next hj1 hx]
                              simpa [u8s, List.map_set] using this
                            generalize (blockTo S D j).getD j 0 = y at cq
                            clear hbk hbl hin hc ex hfin hbw
                            go_wp2
                            go_roundw
                            case rel => exact ⟨j + 1, by simp, by omega, by omega, HN.out.1, HN.out.2⟩
                            case measure => simp [intOf]; omega
                          · have h1' : (j : Int) < S := by omega
                            have h2' : kk.2 ≤ (j : Int) := by omega
                            obtain ⟨a9, c9, w9, e9, s9⟩ := hfin.out (by omega)
                            have HR : Hid ((Builtin.append_ #[47, 47] 47 #[.slice oa (stayTo z.1 dn kk k).length oc, .slice (some ⟨wr.heap.size, 0, none⟩) 1 1]).run Try.prog (wr.alloc (.cells #[.slice (some ⟨qt, 0, none⟩) S S] 33)) = .ok (.slice a9 ((stayTo z.1 dn kk k).length + 1) c9) w9 ∧ RcSt w0 (fun x => O x ∨ W.heap.size ≤ x) q kk z.1 dn (k + 1) (.slice a9 ((stayTo z.1 dn kk k).length + 1) c9) w9) := ⟨e9, s9⟩
                            clear e9 s9 hfin hbk hbl hbw
                            go_wp2_with (at_builtin; refine wpList_append_run rfl (.tmp 116) (.tmp 118) 47 47 rfl _ _ rfl rfl _ _ HR.out.1 ?_)
                            go_roundw
                            case rel => exact ⟨k + 1, by simp, by omega, HR.out.2⟩
                            case measure => simp [intOf]; omega
                        · have h1' : (S : Int) ≤ j := by omega
                          obtain ⟨a9, c9, w9, e9, s9⟩ := hfin.out (by omega)
                          have HR : Hid ((Builtin.append_ #[47, 47] 47 #[.slice oa (stayTo z.1 dn kk k).length oc, .slice (some ⟨wr.heap.size, 0, none⟩) 1 1]).run Try.prog (wr.alloc (.cells #[.slice (some ⟨qt, 0, none⟩) S S] 33)) = .ok (.slice a9 ((stayTo z.1 dn kk k).length + 1) c9) w9 ∧ RcSt w0 (fun x => O x ∨ W.heap.size ≤ x) q kk z.1 dn (k + 1) (.slice a9 ((stayTo z.1 dn kk k).length + 1) c9) w9) := ⟨e9, s9⟩
                          clear e9 s9 hfin hbk hbl hbw
                          go_wp2_with (at_builtin; refine wpList_append_run rfl (.tmp 116) (.tmp 118) 47 47 rfl _ _ rfl rfl _ _ HR.out.1 ?_)
                          go_roundw
                          case rel => exact ⟨k + 1, by simp, by omega, HR.out.2⟩
                          case measure => simp [intOf]; omega
                    · have hTd : decide (0 < kk.2) = false := by simp [ht]
                      have ht' : kk.2 ≤ 0 := by omega
                      go_wp2
                      go_roundw
                      case rel => exact ⟨k + 1, by simp, by omega, st.out.skip (stayTo_skip (by omega) (by omega))⟩
                      case measure => simp [intOf]; omega
                  · have hme : (((k : Int) - dn) == kk.1) = false := by simp [hm]
                    go_wp2
                    go_roundw
                    case rel => exact ⟨k + 1, by simp, by omega, st.out.skip (stayTo_skip (by omega) (by omega))⟩
                    case measure => simp [intOf]; omega
          · obtain rfl : k = m := by omega
            have hB : stayTo z.1 dn kk k = crashB z.1 dn kk.1 kk.2 := by rw [← HM.out.1]; exact stayTo_all (by rw [HM.out.1]; exact HM.out.2.1)
            obtain ⟨B, hBe⟩ : ∃ B, B = crashB z.1 dn kk.1 kk.2 := ⟨_, rfl⟩
            have hrow := st0.row
            rw [hB, ← hBe] at hrow
            have hOO : ∀ x, w0.heap.size ≤ x → (fun x => O x ∨ W.heap.size ≤ x) x := fun x hx => .inr (by have := HS.out.1.size; omega)
            have hM := cr_mem (O := fun x => O x ∨ W.heap.size ≤ x) (B := B) (ub := oa) (ud := oc) hOO HS.out.2.2.2.2.2.1 ((upTo_get (fun i z => cr1 (lossAt ls i) z) zs i).trans HS.out.2.1) HU.out (by have h9 := hrow.mono (O' := fun x => (O x ∨ W.heap.size ≤ x) ∨ w0.heap.size ≤ x) (fun x hx _ => .inl hx); exact h9) (below_out _ hbw) (.inr (fun r e => by have := st0.fr r (by rw [hB, ← hBe]; exact e); have := HS.out.2.2.2.2.1; omega))
            rw [hB, ← hBe]
            have m0 := hM.c0
            rw [HM.out.1] at m0
            have m1 := hM.c1
            have m2 := hM.f0
            have m3 := hM.f1
            have HF : Hid ((∃ vs', DvV 71 (fun x => O x ∨ W.heap.size ≤ x) ((wr.setCell ⟨g, i * 2, none⟩ (.slice oa B.length oc)).setCell ⟨g, i * 2 + 1, none⟩ (.int .i64 (B.length : Nat))) p s (upTo (fun i z => cr1 (lossAt ls i) z) zs (i + 1)) g cz vs') ∧ Out O W ((wr.setCell ⟨g, i * 2, none⟩ (.slice oa B.length oc)).setCell ⟨g, i * 2 + 1, none⟩ (.int .i64 (B.length : Nat)))) := by
              refine ⟨?_, HS.out.1.trans hM.out (fun x hx => hx)⟩
              obtain ⟨vs2, hv2⟩ := hM.dev
              refine ⟨vs2, ?_⟩
              rw [← upTo_next _ _ HS.out.2.1]
              have e : cr1 (lossAt ls i) z = (B, ((B.length : Nat) : Int)) := by
                rw [← HS.out.2.2.1, cr1, HS.out.2.2.2.1, Int.toNat_natCast, ← hBe]
              rw [e]
              exact hv2
            clear hM st st0 hrow hvV hbw z0 z1 l0 l1 p2 hB hOO hBe
            go_wp2
            go_roundw
            case rel => exact ⟨i + 1, by simp, by omega, HF.out.1, HF.out.2⟩
            case measure => simp [intOf]; omega
      · have hin' : (n : Int) ≤ i := by omega
        have hk0 : kk = (0, 0) := by rw [hk, lossAt, List.getD, List.getElem?_eq_none (by have := hls.1; omega)]; rfl
        have HX : Hid (Blk (w0.alloc (.cells #[.int .i64 0, .int .i64 0] 67)) q [.int .i64 kk.1, .int .i64 kk.2] 67 ∧ Below w0.heap.size w0 (w0.alloc (.cells #[.int .i64 0, .int .i64 0] 67))) := by
          refine ⟨by rw [hk0]; exact Blk.new' hq.symm rfl, (Below.refl _ _).alloc (Nat.le_refl _) _⟩
        clear hls hz hdn hk hv ho z0 z1 hk0
        go_upto_region 6 with fail
        rw [← hq]
        generalize hVV : World.alloc _ _ = V at HX ⊢
        clear hVV hq c4'
        have lb : Blk V q [.int .i64 kk.1, .int .i64 kk.2] 67 := HX.out.1
        have HX0 : Hid (RcSt w0 (fun x => O x ∨ W.heap.size ≤ x) q kk z.1 dn 0 (.slice none 0 0) V) := by
          refine ⟨by rw [stayTo_zero]; exact RowAt.nil _ _, (fun r e => by cases e), ?_, lb⟩
          rw [HS.out.2.2.2.2.1]; exact HX.out.2
        clear lb
        have hvV := HS.out.2.2.2.2.2.1.under HX.out.2
        have c4V := hvV.pcell.2.2.2.2
        rw [upTo_length, hN] at c4V
        have z0V := (HX.out.2.cell (old_block HC0.out.1)).trans HC0.out.1
        clear hvV
        go_wp2
        clear c4V z0V
        go_loopw [6, 8] (fun o x wr2 => ∃ k : Nat, x = .int .i64 k ∧ k ≤ m ∧ RcSt w0 (fun x => O x ∨ W.heap.size ≤ x) q kk z.1 dn k o wr2) (fun o x wr2 => m - (intOf x).toNat)
        case atStart => exact ⟨0, rfl, Nat.zero_le _, HX0.out⟩
        case round =>
          obtain ⟨k, rfl, hkm, st0⟩ := hrel
          have hbw : Below w0.heap.size w0 wr := by rw [← HS.out.2.2.2.2.1]; exact st0.bel
          have hvV := HS.out.2.2.2.2.2.1.under hbw
          have c4 := hvV.pcell.2.2.2.2
          rw [upTo_length, hN] at c4
          have p2 := hvV.pcell.2.2.1
          rw [HS.out.2.2.2.2.2.2] at p2
          have z0 := (hbw.cell (old_block HC0.out.1)).trans HC0.out.1
          have z1 := (hbw.cell (old_block HC0.out.2)).trans HC0.out.2
          have l0 : wr.cell? ⟨q, 0, none⟩ = some (.int .i64 kk.1) := st0.box.cell 0
          have l1 : wr.cell? ⟨q, 1, none⟩ = some (.int .i64 kk.2) := st0.box.cell 1
          obtain ⟨oa, oc, hoe⟩ := st0.row.slice
          subst hoe
          have st : Hid (RcSt w0 (fun x => O x ∨ W.heap.size ≤ x) q kk z.1 dn k (.slice oa (stayTo z.1 dn kk k).length oc) wr) := st0
          rcases Nat.lt_or_ge k m with hlt2 | hge2
          · obtain ⟨D, hD⟩ : ∃ D, z.1[k]? = some D := ⟨z.1[k]'(by rw [HM.out.1]; exact hlt2), by simp⟩
            obtain ⟨b2, A2, L2, C2, hua, y0, hbk2⟩ := hvV.blockAt ((upTo_get (fun i z => cr1 (lossAt ls i) z) zs i).trans HS.out.2.1) HU.out hD
            subst hua
            have HH : Hid (BkAt (fun x => O x ∨ W.heap.size ≤ x) wr (.slice A2 L2 C2) D) := hbk2
            have HZ : Hid (zs[i]? = some z ∧ z.1[k]? = some D ∧ D.length = S) := ⟨HS.out.2.1, hD, by have h1 := HM.out.2.2.2 D (List.mem_of_getElem? hD); have h2 := HS.out.2.2.2.2.2.2; rw [h2] at h1; omega⟩
            have hk' : (k : Int) < m := by omega
            have hw2 : IntKind.i64.wrap ((k : Int) + 1) = (k : Int) + 1 := by rw [IntKind.wrap_i64]; omega
            have hws : IntKind.i64.wrap ((k : Int) - dn) = (k : Int) - dn := by have := HM.out.2.1; rw [IntKind.wrap_i64]; omega
            clear hbk2 hD hvV hbw st0
            by_cases hA1 : (k : Int) - dn < 0
            · obtain ⟨a9, c9, w9, e9, s9⟩ := st.out.app (HO.out) HH.out rfl (by omega) (stayTo_low (by omega) HZ.out.2.1)
              have HR : Hid ((Builtin.append_ #[47, 47] 47 #[.slice oa (stayTo z.1 dn kk k).length oc, .slice (some ⟨wr.heap.size, 0, none⟩) 1 1]).run Try.prog (wr.alloc (.cells #[.slice A2 L2 C2] 33)) = .ok (.slice a9 ((stayTo z.1 dn kk k).length + 1) c9) w9 ∧ RcSt w0 (fun x => O x ∨ W.heap.size ≤ x) q kk z.1 dn (k + 1) (.slice a9 ((stayTo z.1 dn kk k).length + 1) c9) w9) := ⟨e9, s9⟩
              clear e9 s9
              go_wp2_with (at_builtin; refine wpList_append_run rfl (.tmp 74) (.tmp 76) 47 47 rfl _ _ rfl rfl _ _ HR.out.1 ?_)
              go_roundw
              case rel => exact ⟨k + 1, by simp, by omega, HR.out.2⟩
              case measure => simp [intOf]; omega
            · by_cases hA2 : (k : Int) - dn < kk.1
              · obtain ⟨a9, c9, w9, e9, s9⟩ := st.out.app (HO.out) HH.out rfl (by omega) (stayTo_low (by omega) HZ.out.2.1)
                have HR : Hid ((Builtin.append_ #[47, 47] 47 #[.slice oa (stayTo z.1 dn kk k).length oc, .slice (some ⟨wr.heap.size, 0, none⟩) 1 1]).run Try.prog (wr.alloc (.cells #[.slice A2 L2 C2] 33)) = .ok (.slice a9 ((stayTo z.1 dn kk k).length + 1) c9) w9 ∧ RcSt w0 (fun x => O x ∨ W.heap.size ≤ x) q kk z.1 dn (k + 1) (.slice a9 ((stayTo z.1 dn kk k).length + 1) c9) w9) := ⟨e9, s9⟩
                clear e9 s9
                go_wp2_with (at_builtin; refine wpList_append_run rfl (.tmp 74) (.tmp 76) 47 47 rfl _ _ rfl rfl _ _ HR.out.1 ?_)
                go_roundw
                case rel => exact ⟨k + 1, by simp, by omega, HR.out.2⟩
                case measure => simp [intOf]; omega
              · rcases Int.lt_or_le kk.1 0 with hK | hK
                · by_cases hm : (k : Int) - dn = 0
                  · have hme : (((k : Int) - dn) == 0) = true := by simp [hm]
                    by_cases ht : 0 < kk.2
                    · have hTd : decide (0 < kk.2) = true := by simp [ht]
                      obtain ⟨w1, hw1⟩ : ∃ w1, w1 = wr := ⟨_, rfl⟩
                      subst hw1
                      obtain ⟨qt, hqt⟩ : ∃ qt, qt = w1.heap.size := ⟨_, rfl⟩
                      have hmk := run_make_row' (P := Try.prog) 33 5 (.int .u8 0) 1 Try.underlying33 Try.zero_u8 rfl .i64 .i64 S (by omega) (by omega)
                      have hbt := made_bytes S w1
                      rw [← hqt] at hbt
                      have H0 : Hid (Blk (w1.alloc (.cells (madeCells #[.int .u8 0] S) 5)) qt (u8s (blockTo S D 0)) 5 ∧ Below qt w1 (w1.alloc (.cells (madeCells #[.int .u8 0] S) 5))) := ⟨by simpa [blockTo] using hbt, (Below.refl _ _).alloc (by omega) _⟩
                      have HT : Hid (qt = w1.heap.size) := hqt
                      clear hbt
                      go_upto_region 17 with fail
                      rw [← hqt]
                      generalize hVV : World.alloc w1 _ = V1 at H0 ⊢
                      clear hVV hmk hqt
                      go_wp2
                      go_loopw [12] (fun x wr3 => ∃ j : Nat, x = .int .i64 j ∧ j ≤ S ∧ (j : Int) ≤ kk.2 ∧ Blk wr3 qt (u8s (blockTo S D j)) 5 ∧ Below qt w1 wr3) (fun x wr3 => S - (intOf x).toNat)
                      case atStart => exact ⟨0, rfl, Nat.zero_le _, by omega, H0.out.1, H0.out.2⟩
                      case round =>
                        obtain ⟨j, rfl, hj, hjT, hbk, hbl⟩ := hrel
                        have hbw : Below w1.heap.size w1 wr := by rw [← HT.out]; exact hbl
                        have y2 := (hbw.cell (old_block p2)).trans p2
                        have yl := (hbw.cell (old_block l1)).trans l1
                        have hfin : Hid (¬ (j < S ∧ (j : Int) < kk.2) → ∃ a9 c9 w9, (Builtin.append_ #[47, 47] 47 #[.slice oa (stayTo z.1 dn kk k).length oc, .slice (some ⟨wr.heap.size, 0, none⟩) 1 1]).run Try.prog (wr.alloc (.cells #[.slice (some ⟨qt, 0, none⟩) S S] 33)) = .ok (.slice a9 ((stayTo z.1 dn kk k).length + 1) c9) w9 ∧ RcSt w0 (fun x => O x ∨ W.heap.size ≤ x) q kk z.1 dn (k + 1) (.slice a9 ((stayTo z.1 dn kk k).length + 1) c9) w9) := by
                          intro hd
                          have hDl := HZ.out.2.2
                          have ej : j = min kk.2.toNat D.length := by omega
                          have est : blockTo S D j = tornL D (min kk.2.toNat D.length) := by rw [← hDl, blockTo_torn, ← ej]
                          rw [est] at hbk
                          have hl9 : (tornL D (min kk.2.toNat D.length)).length = S := by rw [tornL_length (by omega)]; exact hDl
                          have hq9 : q ≤ qt := by have := st.out.box.lt; have := HT.out; omega
                          refine (st.out.under hbw).app HO.out (D := tornL D (min kk.2.toNat D.length)) ⟨?_, fun x hx => by cases hx; exact HO.out _ hq9, tornL_fits HH.out.2.2.1, by omega⟩ rfl (by omega) (stayTo_mid (by omega) HZ.out.2.1 (by omega))
                          rw [hl9]
                          exact blk_own 0 hbk (by rw [u8s_length, hl9]) (by unfold maxLen; omega) (Nat.zero_le _)
                        by_cases hj1 : j < S
                        · by_cases hj2 : (j : Int) < kk.2
                          · obtain ⟨x, hx⟩ : ∃ x, D[j]? = some x := ⟨D[j]'(by have := HZ.out.2.2; omega), by simp⟩
                            have hin := HH.out.bin.1.below hbw
                            have hLD := HH.out.bin.2.2
                            obtain ⟨bb, off, rfl, hc⟩ := hin.2.2.2.resolve_left (by have := HZ.out.2.2; omega)
                            have hjL : j < L2 := by have := HZ.out.2.2; omega
                            have cx := hc j hjL
                            have ex : D.getD j 0 = x := by simp [List.getD, hx]
                            rw [ex] at cx
                            have h1' : (j : Int) < S := by omega
                            have h2' : (j : Int) < L2 := by omega
                            have hw3 : IntKind.i64.wrap ((j : Int) + 1) = (j : Int) + 1 := by rw [IntKind.wrap_i64]; omega
                            have cq : (wr.cell? ⟨qt, j, none⟩) = some (.int .u8 ((blockTo S D j).getD j 0)) := by
                              rw [hbk.cell]
                              have : j < (blockTo S D j).length := by rw [blockTo_length (by omega) (by have := HZ.out.2.2; omega)]; exact hj1
                              simp [u8s, List.getD, this]
                            have fq := hbk.frozen j
                            have HN : Hid (Blk (wr.setCell ⟨qt, j, none⟩ (.int .u8 x)) qt (u8s (blockTo S D (j + 1))) 5 ∧ Below qt w1 (wr.setCell ⟨qt, j, none⟩ (.int .u8 x))) := by
                              refine ⟨?_, hbl.setCell (p := ⟨qt, j, none⟩) (Nat.le_refl _) _⟩
                              have := hbk.set j (.int .u8 x)
                              rw [← blockTo_next hj1 hx]
                              simpa [u8s, List.map_set] using this
                            generalize (blockTo S D j).getD j 0 = y at cq
                            clear hbk hbl hin hc ex hfin hbw
                            go_wp2
                            go_roundw
                            case rel => exact ⟨j + 1, by simp, by omega, by omega, HN.out.1, HN.out.2⟩
                            case measure => simp [intOf]; omega
                          · have h1' : (j : Int) < S := by omega
                            have h2' : kk.2 ≤ (j : Int) := by omega
                            obtain ⟨a9, c9, w9, e9, s9⟩ := hfin.out (by omega)
                            have HR : Hid ((Builtin.append_ #[47, 47] 47 #[.slice oa (stayTo z.1 dn kk k).length oc, .slice (some ⟨wr.heap.size, 0, none⟩) 1 1]).run Try.prog (wr.alloc (.cells #[.slice (some ⟨qt, 0, none⟩) S S] 33)) = .ok (.slice a9 ((stayTo z.1 dn kk k).length + 1) c9) w9 ∧ RcSt w0 (fun x => O x ∨ W.heap.size ≤ x) q kk z.1 dn (k + 1) (.slice a9 ((stayTo z.1 dn kk k).length + 1) c9) w9) := ⟨e9, s9⟩
                            clear e9 s9 hfin hbk hbl hbw
                            go_wp2_with (at_builtin; refine wpList_append_run rfl (.tmp 116) (.tmp 118) 47 47 rfl _ _ rfl rfl _ _ HR.out.1 ?_)
                            go_roundw
                            case rel => exact ⟨k + 1, by simp, by omega, HR.out.2⟩
                            case measure => simp [intOf]; omega
                        · have h1' : (S : Int) ≤ j := by omega
                          obtain ⟨a9, c9, w9, e9, s9⟩ := hfin.out (by omega)
                          have HR : Hid ((Builtin.append_ #[47, 47] 47 #[.slice oa (stayTo z.1 dn kk k).length oc, .slice (some ⟨wr.heap.size, 0, none⟩) 1 1]).run Try.prog (wr.alloc (.cells #[.slice (some ⟨qt, 0, none⟩) S S] 33)) = .ok (.slice a9 ((stayTo z.1 dn kk k).length + 1) c9) w9 ∧ RcSt w0 (fun x => O x ∨ W.heap.size ≤ x) q kk z.1 dn (k + 1) (.slice a9 ((stayTo z.1 dn kk k).length + 1) c9) w9) := ⟨e9, s9⟩
                          clear e9 s9 hfin hbk hbl hbw
                          go_wp2_with (at_builtin; refine wpList_append_run rfl (.tmp 116) (.tmp 118) 47 47 rfl _ _ rfl rfl _ _ HR.out.1 ?_)
                          go_roundw
                          case rel => exact ⟨k + 1, by simp, by omega, HR.out.2⟩
                          case measure => simp [intOf]; omega
                    · have hTd : decide (0 < kk.2) = false := by simp [ht]
                      have ht' : kk.2 ≤ 0 := by omega
                      go_wp2
                      go_roundw
                      case rel => exact ⟨k + 1, by simp, by omega, st.out.skip (stayTo_skip (by omega) (by omega))⟩
                      case measure => simp [intOf]; omega
                  · have hme : (((k : Int) - dn) == 0) = false := by simp [hm]
                    go_wp2
                    go_roundw
                    case rel => exact ⟨k + 1, by simp, by omega, st.out.skip (stayTo_skip (by omega) (by omega))⟩
                    case measure => simp [intOf]; omega
                · by_cases hm : (k : Int) - dn = kk.1
                  · have hme : (((k : Int) - dn) == kk.1) = true := by simp [hm]
                    by_cases ht : 0 < kk.2
                    · have hTd : decide (0 < kk.2) = true := by simp [ht]
                      obtain ⟨w1, hw1⟩ : ∃ w1, w1 = wr := ⟨_, rfl⟩
                      subst hw1
                      obtain ⟨qt, hqt⟩ : ∃ qt, qt = w1.heap.size := ⟨_, rfl⟩
                      have hmk := run_make_row' (P := Try.prog) 33 5 (.int .u8 0) 1 Try.underlying33 Try.zero_u8 rfl .i64 .i64 S (by omega) (by omega)
                      have hbt := made_bytes S w1
                      rw [← hqt] at hbt
                      have H0 : Hid (Blk (w1.alloc (.cells (madeCells #[.int .u8 0] S) 5)) qt (u8s (blockTo S D 0)) 5 ∧ Below qt w1 (w1.alloc (.cells (madeCells #[.int .u8 0] S) 5))) := ⟨by simpa [blockTo] using hbt, (Below.refl _ _).alloc (by omega) _⟩
                      have HT : Hid (qt = w1.heap.size) := hqt
                      clear hbt
                      go_upto_region 17 with fail
                      rw [← hqt]
                      generalize hVV : World.alloc w1 _ = V1 at H0 ⊢
                      clear hVV hmk hqt
                      go_wp2
                      go_loopw [12] (fun x wr3 => ∃ j : Nat, x = .int .i64 j ∧ j ≤ S ∧ (j : Int) ≤ kk.2 ∧ Blk wr3 qt (u8s (blockTo S D j)) 5 ∧ Below qt w1 wr3) (fun x wr3 => S - (intOf x).toNat)
                      case atStart => exact ⟨0, rfl, Nat.zero_le _, by omega, H0.out.1, H0.out.2⟩
                      case round =>
                        obtain ⟨j, rfl, hj, hjT, hbk, hbl⟩ := hrel
                        have hbw : Below w1.heap.size w1 wr := by rw [← HT.out]; exact hbl
                        have y2 := (hbw.cell (old_block p2)).trans p2
                        have yl := (hbw.cell (old_block l1)).trans l1
                        have hfin : Hid (¬ (j < S ∧ (j : Int) < kk.2) → ∃ a9 c9 w9, (Builtin.append_ #[47, 47] 47 #[.slice oa (stayTo z.1 dn kk k).length oc, .slice (some ⟨wr.heap.size, 0, none⟩) 1 1]).run Try.prog (wr.alloc (.cells #[.slice (some ⟨qt, 0, none⟩) S S] 33)) = .ok (.slice a9 ((stayTo z.1 dn kk k).length + 1) c9) w9 ∧ RcSt w0 (fun x => O x ∨ W.heap.size ≤ x) q kk z.1 dn (k + 1) (.slice a9 ((stayTo z.1 dn kk k).length + 1) c9) w9) := by
                          intro hd
                          have hDl := HZ.out.2.2
                          have ej : j = min kk.2.toNat D.length := by omega
                          have est : blockTo S D j = tornL D (min kk.2.toNat D.length) := by rw [← hDl, blockTo_torn, ← ej]
                          rw [est] at hbk
                          have hl9 : (tornL D (min kk.2.toNat D.length)).length = S := by rw [tornL_length (by omega)]; exact hDl
                          have hq9 : q ≤ qt := by have := st.out.box.lt; have := HT.out; omega
                          refine (st.out.under hbw).app HO.out (D := tornL D (min kk.2.toNat D.length)) ⟨?_, fun x hx => by cases hx; exact HO.out _ hq9, tornL_fits HH.out.2.2.1, by omega⟩ rfl (by omega) (stayTo_mid (by omega) HZ.out.2.1 (by omega))
                          rw [hl9]
                          exact blk_own 0 hbk (by rw [u8s_length, hl9]) (by unfold maxLen; omega) (Nat.zero_le _)
                        by_cases hj1 : j < S
                        · by_cases hj2 : (j : Int) < kk.2
                          · obtain ⟨x, hx⟩ : ∃ x, D[j]? = some x := ⟨D[j]'(by have := HZ.out.2.2; omega), by simp⟩
                            have hin := HH.out.bin.1.below hbw
                            have hLD := HH.out.bin.2.2
                            obtain ⟨bb, off, rfl, hc⟩ := hin.2.2.2.resolve_left (by have := HZ.out.2.2; omega)
                            have hjL : j < L2 := by have := HZ.out.2.2; omega
                            have cx := hc j hjL
                            have ex : D.getD j 0 = x := by simp [List.getD, hx]
                            rw [ex] at cx
                            have h1' : (j : Int) < S := by omega
                            have h2' : (j : Int) < L2 := by omega
                            have hw3 : IntKind.i64.wrap ((j : Int) + 1) = (j : Int) + 1 := by rw [IntKind.wrap_i64]; omega
                            have cq : (wr.cell? ⟨qt, j, none⟩) = some (.int .u8 ((blockTo S D j).getD j 0)) := by
                              rw [hbk.cell]
                              have : j < (blockTo S D j).length := by rw [blockTo_length (by omega) (by have := HZ.out.2.2; omega)]; exact hj1
                              simp [u8s, List.getD, this]
                            have fq := hbk.frozen j
                            have HN : Hid (Blk (wr.setCell ⟨qt, j, none⟩ (.int .u8 x)) qt (u8s (blockTo S D (j + 1))) 5 ∧ Below qt w1 (wr.setCell ⟨qt, j, none⟩ (.int .u8 x))) := by
                              refine ⟨?_, hbl.setCell (p := ⟨qt, j, none⟩) (Nat.le_refl _) _⟩
                              have := hbk.set j (.int .u8 x)
                              rw [← blockTo_next hj1 hx]
                              simpa [u8s, List.map_set] using this
                            generalize (blockTo S D j).getD j 0 = y at cq
                            clear hbk hbl hin hc ex hfin hbw
                            go_wp2
                            go_roundw
                            case rel => exact ⟨j + 1, by simp, by omega, by omega, HN.out.1, HN.out.2⟩
                            case measure => simp [intOf]; omega
                          · have h1' : (j : Int) < S := by omega
                            have h2' : kk.2 ≤ (j : Int) := by omega
                            obtain ⟨a9, c9, w9, e9, s9⟩ := hfin.out (by omega)
                            have HR : Hid ((Builtin.append_ #[47, 47] 47 #[.slice oa (stayTo z.1 dn kk k).length oc, .slice (some ⟨wr.heap.size, 0, none⟩) 1 1]).run Try.prog (wr.alloc (.cells #[.slice (some ⟨qt, 0, none⟩) S S] 33)) = .ok (.slice a9 ((stayTo z.1 dn kk k).length + 1) c9) w9 ∧ RcSt w0 (fun x => O x ∨ W.heap.size ≤ x) q kk z.1 dn (k + 1) (.slice a9 ((stayTo z.1 dn kk k).length + 1) c9) w9) := ⟨e9, s9⟩
                            clear e9 s9 hfin hbk hbl hbw
                            go_wp2_with (at_builtin; refine wpList_append_run rfl (.tmp 116) (.tmp 118) 47 47 rfl _ _ rfl rfl _ _ HR.out.1 ?_)
                            go_roundw
                            case rel => exact ⟨k + 1, by simp, by omega, HR.out.2⟩
                            case measure => simp [intOf]; omega
                        · have h1' : (S : Int) ≤ j := by omega
                          obtain ⟨a9, c9, w9, e9, s9⟩ := hfin.out (by omega)
                          have HR : Hid ((Builtin.append_ #[47, 47] 47 #[.slice oa (stayTo z.1 dn kk k).length oc, .slice (some ⟨wr.heap.size, 0, none⟩) 1 1]).run Try.prog (wr.alloc (.cells #[.slice (some ⟨qt, 0, none⟩) S S] 33)) = .ok (.slice a9 ((stayTo z.1 dn kk k).length + 1) c9) w9 ∧ RcSt w0 (fun x => O x ∨ W.heap.size ≤ x) q kk z.1 dn (k + 1) (.slice a9 ((stayTo z.1 dn kk k).length + 1) c9) w9) := ⟨e9, s9⟩
                          clear e9 s9 hfin hbk hbl hbw
                          go_wp2_with (at_builtin; refine wpList_append_run rfl (.tmp 116) (.tmp 118) 47 47 rfl _ _ rfl rfl _ _ HR.out.1 ?_)
                          go_roundw
                          case rel => exact ⟨k + 1, by simp, by omega, HR.out.2⟩
                          case measure => simp [intOf]; omega
                    · have hTd : decide (0 < kk.2) = false := by simp [ht]
                      have ht' : kk.2 ≤ 0 := by omega
                      go_wp2
                      go_roundw
                      case rel => exact ⟨k + 1, by simp, by omega, st.out.skip (stayTo_skip (by omega) (by omega))⟩
                      case measure => simp [intOf]; omega
                  · have hme : (((k : Int) - dn) == kk.1) = false := by simp [hm]
                    go_wp2
                    go_roundw
                    case rel => exact ⟨k + 1, by simp, by omega, st.out.skip (stayTo_skip (by omega) (by omega))⟩
                    case measure => simp [intOf]; omega
          · obtain rfl : k = m := by omega
            have hB : stayTo z.1 dn kk k = crashB z.1 dn kk.1 kk.2 := by rw [← HM.out.1]; exact stayTo_all (by rw [HM.out.1]; exact HM.out.2.1)
            obtain ⟨B, hBe⟩ : ∃ B, B = crashB z.1 dn kk.1 kk.2 := ⟨_, rfl⟩
            have hrow := st0.row
            rw [hB, ← hBe] at hrow
            have hOO : ∀ x, w0.heap.size ≤ x → (fun x => O x ∨ W.heap.size ≤ x) x := fun x hx => .inr (by have := HS.out.1.size; omega)
            have hM := cr_mem (O := fun x => O x ∨ W.heap.size ≤ x) (B := B) (ub := oa) (ud := oc) hOO HS.out.2.2.2.2.2.1 ((upTo_get (fun i z => cr1 (lossAt ls i) z) zs i).trans HS.out.2.1) HU.out (by have h9 := hrow.mono (O' := fun x => (O x ∨ W.heap.size ≤ x) ∨ w0.heap.size ≤ x) (fun x hx _ => .inl hx); exact h9) (below_out _ hbw) (.inr (fun r e => by have := st0.fr r (by rw [hB, ← hBe]; exact e); have := HS.out.2.2.2.2.1; omega))
            rw [hB, ← hBe]
            have m0 := hM.c0
            rw [HM.out.1] at m0
            have m1 := hM.c1
            have m2 := hM.f0
            have m3 := hM.f1
            have HF : Hid ((∃ vs', DvV 71 (fun x => O x ∨ W.heap.size ≤ x) ((wr.setCell ⟨g, i * 2, none⟩ (.slice oa B.length oc)).setCell ⟨g, i * 2 + 1, none⟩ (.int .i64 (B.length : Nat))) p s (upTo (fun i z => cr1 (lossAt ls i) z) zs (i + 1)) g cz vs') ∧ Out O W ((wr.setCell ⟨g, i * 2, none⟩ (.slice oa B.length oc)).setCell ⟨g, i * 2 + 1, none⟩ (.int .i64 (B.length : Nat)))) := by
              refine ⟨?_, HS.out.1.trans hM.out (fun x hx => hx)⟩
              obtain ⟨vs2, hv2⟩ := hM.dev
              refine ⟨vs2, ?_⟩
              rw [← upTo_next _ _ HS.out.2.1]
              have e : cr1 (lossAt ls i) z = (B, ((B.length : Nat) : Int)) := by
                rw [← HS.out.2.2.1, cr1, HS.out.2.2.2.1, Int.toNat_natCast, ← hBe]
              rw [e]
              exact hv2
            clear hM st st0 hrow hvV hbw z0 z1 l0 l1 p2 hB hOO hBe
            go_wp2
            go_roundw
            case rel => exact ⟨i + 1, by simp, by omega, HF.out.1, HF.out.2⟩
            case measure => simp [intOf]; omega
    · obtain rfl : i = N := by omega
      have HS : Hid (DvV 71 (fun x => O x ∨ W.heap.size ≤ x) w0 p s (upTo (fun i z => cr1 (lossAt ls i) z) zs i) g cz vs' ∧ Out O W w0) := ⟨hv, ho⟩
      clear hv ho
      go_wp2
      go_end0
      refine ⟨⟨_, rfl⟩, ⟨g, cz, vs', ?_⟩, HS.out.2⟩
      have := HS.out.1
      rw [upTo_all _ _ (by omega)] at this
      exact this.mono (fun x hx hlt => by
        rcases hx with h | h
        · exact .inl h
        · exact .inr ⟨h, hlt⟩)
end
end Go.Proofs.Ytlkpglppkpalgaa
