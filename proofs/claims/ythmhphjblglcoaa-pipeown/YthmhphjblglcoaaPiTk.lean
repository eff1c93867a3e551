/- What one call of the program's Take does. -/
import Derived.Test.YthmhphjblglcoaaPiT
import Derived.BigQuiet
namespace Go.Proofs.Ythmhphjblglcoaa
open Go.RowKit
set_option linter.unusedVariables false
set_option maxRecDepth 4000
set_option maxHeartbeats 2000000 in
theorem pTake_none {X : Nat → Prop} {W : World} {b : Nat} {l : List Pq} (k : Int) (h : PP X W b l) (hk : ¬ (0 ≤ k ∧ k < l.length)) :
    Calls Try.prog 15 #[.pointer (some ⟨b, 0, none⟩), .int .i64 k] W fun e w' => e = .returned (.tuple #[.agg (rqL rq0 (.slice none 0 0)).toArray, .bool false]) ∧ Below W.heap.size W w' := by
  obtain ⟨q, hq⟩ : ∃ q, q = W.heap.size := ⟨_, rfl⟩
  have hbW : Below W.heap.size W (W.alloc (.cells (rqL rq0 (.slice none 0 0)).toArray 34)) := (Below.refl _ _).alloc (Nat.le_refl _) _
  have HP : Hid (PP X (W.alloc (.cells (rqL rq0 (.slice none 0 0)).toArray 34)) b l ∧ Below W.heap.size W (W.alloc (.cells (rqL rq0 (.slice none 0 0)).toArray 34)) ∧ Blk (W.alloc (.cells (rqL rq0 (.slice none 0 0)).toArray 34)) q (rqL rq0 (.slice none 0 0)) 34) := ⟨h.below hbW, hbW, Blk.new' hq.symm rfl⟩
  clear h hbW
  have HQ : Hid (W.heap.size ≤ q) := by show _ ≤ _; omega
  go_enter Try.func15, Try.ntmps15
  go_upto_region 1 with fail
  rw [← hq]
  generalize hW : World.alloc W _ = W1
  have HP' : Hid (PP X W1 b l ∧ Below W.heap.size W W1 ∧ Blk W1 q (rqL rq0 (.slice none 0 0)) 34) := by rw [← hW]; exact HP.out
  clear HP hW hq
  have c := HP'.out.1.len
  have d0 : W1.cell? ⟨q, 0, none⟩ = some (.int .u16 0) := HP'.out.2.2.cell 0
  have d1 : W1.cell? ⟨q, 1, none⟩ = some (.int .u16 0) := HP'.out.2.2.cell 1
  have d2 : W1.cell? ⟨q, 2, none⟩ = some (.int .u64 0) := HP'.out.2.2.cell 2
  have d3 : W1.cell? ⟨q, 3, none⟩ = some (.int .u64 0) := HP'.out.2.2.cell 3
  have d4 : W1.cell? ⟨q, 4, none⟩ = some (.int .u32 0) := HP'.out.2.2.cell 4
  have d5 : W1.cell? ⟨q, 5, none⟩ = some (.slice none 0 0) := HP'.out.2.2.cell 5
  have z0 := HP'.out.2.2.frozen 0
  have z1 := HP'.out.2.2.frozen 1
  have z2 := HP'.out.2.2.frozen 2
  have z3 := HP'.out.2.2.frozen 3
  have z4 := HP'.out.2.2.frozen 4
  have z5 := HP'.out.2.2.frozen 5
  have HB3 : Hid (Blk ((((((W1.setCell ⟨q, 0, none⟩ (.int .u16 0)).setCell ⟨q, 1, none⟩ (.int .u16 0)).setCell ⟨q, 2, none⟩ (.int .u64 0)).setCell ⟨q, 3, none⟩ (.int .u64 0)).setCell ⟨q, 4, none⟩ (.int .u32 0)).setCell ⟨q, 5, none⟩ (.slice none 0 0)) q (rqL rq0 (.slice none 0 0)) 34 ∧ Below W.heap.size W ((((((W1.setCell ⟨q, 0, none⟩ (.int .u16 0)).setCell ⟨q, 1, none⟩ (.int .u16 0)).setCell ⟨q, 2, none⟩ (.int .u64 0)).setCell ⟨q, 3, none⟩ (.int .u64 0)).setCell ⟨q, 4, none⟩ (.int .u32 0)).setCell ⟨q, 5, none⟩ (.slice none 0 0))) := by
    have hqs : W.heap.size ≤ q := HQ.out
    exact ⟨HP'.out.2.2.setAll (vs := rqL rq0 (.slice none 0 0)) (by rfl), below_setCells (g := q) hqs (rqL rq0 (.slice none 0 0)) 0 W1 HP'.out.2.1⟩
  by_cases h1 : k < 0
  · go_wp2
    refine bodyPost_ret (results_cell_two (p := 4) (u := 5) (ty := 34) rfl _ _ q _ _ _ rfl HB3.out.1 Try.underlying34 rfl Try.info_request _ rfl) rfl ⟨rfl, HB3.out.2⟩
  · have h2 : (l.length : Int) ≤ k := by omega
    go_wp2
    refine bodyPost_ret (results_cell_two (p := 4) (u := 5) (ty := 34) rfl _ _ q _ _ _ rfl HB3.out.1 Try.underlying34 rfl Try.info_request _ rfl) rfl ⟨rfl, HB3.out.2⟩
set_option maxHeartbeats 2000000 in
theorem pTake_one {X : Nat → Prop} {W : World} {b k : Nat} {l : List Pq} (p : Pq) (h : PP X W b l) (hp0 : l[k]? = some p) :
    Calls Try.prog 15 #[.pointer (some ⟨b, 0, none⟩), .int .i64 (k : Int)] W fun e w' => ∃ A C, e = .returned (.tuple #[.agg (rqL p.1 (.slice A p.2.length C)).toArray, .bool true]) ∧ QD X w' p (.slice A p.2.length C) ∧ PP X w' b (l.eraseIdx k) ∧ Out (fun x => x = b) W w' := by
  have hk : k < l.length := (List.getElem?_eq_some_iff.1 hp0).1
  have HP0 : Hid (l[k]? = some p) := hp0
  clear hp0
  obtain ⟨⟨fl, kd, ck, ofs, ln⟩, D⟩ := p
  have hfew := h.few
  obtain ⟨q, hq⟩ : ∃ q, q = W.heap.size := ⟨_, rfl⟩
  have hbW : Below W.heap.size W (W.alloc (.cells (rqL rq0 (.slice none 0 0)).toArray 34)) := (Below.refl _ _).alloc (Nat.le_refl _) _
  have HP : Hid (PP X (W.alloc (.cells (rqL rq0 (.slice none 0 0)).toArray 34)) b l ∧ Below W.heap.size W (W.alloc (.cells (rqL rq0 (.slice none 0 0)).toArray 34)) ∧ Blk (W.alloc (.cells (rqL rq0 (.slice none 0 0)).toArray 34)) q (rqL rq0 (.slice none 0 0)) 34) := ⟨h.below hbW, hbW, Blk.new' hq.symm rfl⟩
  have h1 : ¬ (k : Int) < 0 := by omega
  have h2 : ¬ (l.length : Int) ≤ (k : Int) := by omega
  have h3 : (k : Int) < 16 := by omega
  clear h hbW
  have HQ : Hid (W.heap.size ≤ q) := by show _ ≤ _; omega
  go_enter Try.func15, Try.ntmps15
  go_upto_region 1 with fail
  rw [← hq]
  generalize hW : World.alloc W _ = W1
  have HP' : Hid (PP X W1 b l ∧ Below W.heap.size W W1 ∧ Blk W1 q (rqL rq0 (.slice none 0 0)) 34) := by rw [← hW]; exact HP.out
  clear HP hW hq
  obtain ⟨p', A, C, hp, hd, hc⟩ := HP'.out.1.at hk
  obtain rfl : p' = (⟨fl, kd, ck, ofs, ln⟩, D) := by have := HP0.out; rw [hp] at this; exact Option.some.inj this
  obtain ⟨cs, hb, h97, hb96, hone, hend⟩ := HP'.out.1.cells
  obtain ⟨n, hn⟩ : ∃ n : Int, n = l.length := ⟨_, rfl⟩
  obtain ⟨m, hm⟩ : ∃ m, l.length = m + 1 := ⟨l.length - 1, by omega⟩
  have c := HP'.out.1.len
  rw [← hn] at c h2
  have c0 := hc 0 _ rfl
  have c1 := hc 1 _ rfl
  have c2 := hc 2 _ rfl
  have c3 := hc 3 _ rfl
  have c4 := hc 4 _ rfl
  have c5 := hc 5 _ rfl
  dsimp only at c0 c1 c2 c3 c4 c5
  simp only [Nat.add_zero] at c0
  have hnb : q ≠ b := by
    rintro rfl
    have e1 : W1.heap[q]? = some (.cells cs.toArray 49 (0, 0)) := hb
    have e2 : W1.heap[q]? = some (.cells (rqL rq0 (.slice none 0 0)).toArray 34 (0, 0)) := HP'.out.2.2
    rw [e1] at e2
    simp only [Option.some.injEq, Obj.cells.injEq] at e2
    exact absurd e2.2.1 (by decide)
  have HD : Hid (l[k]? = some (⟨fl, kd, ck, ofs, ln⟩, D) ∧ QD X W1 (⟨fl, kd, ck, ofs, ln⟩, D) (.slice A D.length C) ∧ Blk W1 b cs 49 ∧ cs.length = 97 ∧ (∀ t, t < l.length * 6 → ∃ u, cs[t]? = some u ∧ u.oneCell' = true) ∧ (∀ w' k, k < l.length → Blk w' b (tkL cs k l.length) 49 → Out (fun x => x = b) W1 w' → PP X w' b (l.eraseIdx k)) ∧ q ≠ b ∧ n = l.length ∧ l.length = m + 1 ∧ cs[96]? = some (.int .i64 (l.length : Int))) := ⟨hp, hd, hb, h97, hone, hend, hnb, hn, hm, hb96⟩
  have hw1 : IntKind.i64.wrap ((k : Int) + 1) = (k : Int) + 1 := by rw [IntKind.wrap_i64]; omega
  have hw2 : IntKind.i64.wrap (n - 1) = (m : Int) := by rw [IntKind.wrap_i64]; omega
  have hm16 : (m : Int) < 16 := by omega
  obtain ⟨o2, ho2⟩ : ∃ o2, o2 = if 16 = k + 1 then 0 else 0 + (k + 1) * 6 := ⟨_, rfl⟩
  have hs1 : ∀ wr, (Instr.sliceAt 47 (.pointer (some ⟨b, 0, none⟩)) (some (.int .i64 (k : Int))) none none).run Try.prog wr = .ok (.slice (some ⟨b, k * 6, none⟩) (16 - k) (16 - k)) wr := fun wr => by
    have := run_part6_l (P := Try.prog) Try.under_arr Try.info_request wr b 0 .i64 (k : Int) k rfl (by omega)
    rwa [Nat.zero_add] at this
  have hs2 : ∀ wr, (Instr.sliceAt 47 (.pointer (some ⟨b, 0, none⟩)) (some (.int .i64 ((k : Int) + 1))) (some (.int .i64 n)) none).run Try.prog wr = .ok (.slice (some ⟨b, o2, none⟩) (l.length - (k + 1)) (16 - (k + 1))) wr := fun wr => by
    have := run_part6 (P := Try.prog) Try.under_arr Try.info_request wr b 0 .i64 .i64 ((k : Int) + 1) n (k + 1) l.length (by omega) hn (by omega) (by omega)
    rw [ho2]; exact this
  have hcopy : ∀ wr, Blk wr b cs 49 → (Builtin.copy_ #[43, 43] 3 #[.slice (some ⟨b, k * 6, none⟩) (16 - k) (16 - k), .slice (some ⟨b, o2, none⟩) (l.length - (k + 1)) (16 - (k + 1))]).run Try.prog wr = .ok (goInt (Nat.min (l.length - (k + 1)) (16 - k))) (wr.setCells b (k * 6) (mvL cs k l.length)) := fun wr hbw => by
    have hml := mvL_length (cs := cs) h97 hfew hk
    refine run_copy_many wr 43 43 3 34 b (k * 6) _ _ ⟨b, o2, none⟩ _ _ 6 (mvL cs k l.length) Try.under_reqs Try.info_request (by rw [hml, show Nat.min (l.length - (k + 1)) (16 - k) = l.length - (k + 1) from Nat.min_eq_left (by omega)]) (fun j v hj => ?_) (fun j hj => ?_) (fun j hj => hbw.frozen _) (fun v hv => ?_)
    · have hjl := (List.getElem?_eq_some_iff.1 hj).1
      rw [hml] at hjl
      rw [Addr.add_mid, hbw.cell, ho2, if_neg (by omega), Nat.zero_add, ← mvL_get (by omega)]
      exact hj
    · rw [hml] at hj
      rw [hbw.cell, List.getElem?_eq_getElem (by omega)]; rfl
    · obtain ⟨t, ht, rfl⟩ := List.mem_iff_getElem.1 hv
      have htl := ht
      rw [hml] at htl
      obtain ⟨u, hu, hu1⟩ := hone ((k + 1) * 6 + t) (by omega)
      rw [← mvL_get (n := l.length) (by omega), List.getElem?_eq_getElem ht] at hu
      cases hu
      exact hu1
  clear hc hp hd hn hm hb h97 hone hend hnb ho2 hb96
  go_upto_region 4 with fail
  generalize hW2 : World.alloc W1 _ = W2
  have HW : Hid (Blk W2 q (rqL rq0 (.slice none 0 0)) 34 ∧ Blk W2 W1.heap.size (rqL ⟨fl, kd, ck, ofs, ln⟩ (.slice A D.length C)) 34 ∧ Blk W2 b cs 49 ∧ Below W1.heap.size W1 W2) := by
    subst hW2
    exact ⟨HP'.out.2.2.alloc _, Blk.new _ _ _, HD.out.2.2.1.alloc _, (Below.refl _ _).alloc (Nat.le_refl _) _⟩
  have c2' : W2.drew.cell? ⟨b, 96, none⟩ = some (.int .i64 n) := by
    rw [HD.out.2.2.2.2.2.2.2.1]
    rw [HW.out.2.2.1.drew.cell]; exact HD.out.2.2.2.2.2.2.2.2.2
  obtain ⟨q2, hq2⟩ : ∃ q2, q2 = W1.heap.size := ⟨_, rfl⟩
  have hcp := hcopy W2.drew HW.out.2.2.1.drew
  obtain ⟨U4, hU4⟩ : ∃ U4, U4 = W2.drew.setCells b (k * 6) (mvL cs k l.length) := ⟨_, rfl⟩
  obtain ⟨cs4, hcs4⟩ : ∃ cs4, cs4 = splice cs (k * 6) (mvL cs k l.length) := ⟨_, rfl⟩
  have H4 : Hid (Blk U4 q (rqL rq0 (.slice none 0 0)) 34 ∧ Blk U4 q2 (rqL ⟨fl, kd, ck, ofs, ln⟩ (.slice A D.length C)) 34 ∧ Blk U4 b cs4 49 ∧ Out (fun x => x = b) W1 U4 ∧ cs4.length = 97 ∧ cs4[96]? = some (.int .i64 n) ∧ q2 ≠ b ∧ q2 ≠ q) := by
    have hml := mvL_length (cs := cs) HD.out.2.2.2.1 hfew hk
    have hlen : cs4.length = 97 := by rw [hcs4, length_splice _ _ _ (by rw [hml, HD.out.2.2.2.1]; omega), HD.out.2.2.2.1]
    have hblt := HD.out.2.2.1.lt
    have hqlt := HP'.out.2.2.lt
    subst hU4
    refine ⟨HW.out.1.drew.setCells_other HD.out.2.2.2.2.2.2.1 _ _, ?_, ?_, out_setCells (fun x => x = b) rfl _ _ _ (below_out _ HW.out.2.2.2).drew, hlen, ?_, by omega, by omega⟩
    · rw [hq2]
      exact HW.out.2.1.drew.setCells_other (by omega) _ _
    · rw [hcs4]
      exact HW.out.2.2.1.drew.setCells _ _ _ _ (by rw [hml, HD.out.2.2.2.1]; omega)
    · rw [hcs4, splice_hi (by rw [hml]; omega) (by rw [hml, HD.out.2.2.2.1]; omega), HD.out.2.2.2.2.2.2.2.1]
      exact HD.out.2.2.2.2.2.2.2.2.2
  rw [← hU4] at hcp
  rw [← hq2]
  have hcs4 : Hid (cs4 = splice cs (k * 6) (mvL cs k l.length)) := hcs4
  clear hcopy hU4 hW2 c c0 c1 c2 c3 c4 c5 hq2
  have u96 : U4.cell? ⟨b, 96, none⟩ = some (.int .i64 n) := by rw [H4.out.2.2.1.cell]; exact H4.out.2.2.2.2.2.1
  have uz := H4.out.2.2.1.frozen 96
  go_region_held3 (fun Y => Y.cell? ⟨b, 96, none⟩ = some (.int .i64 n)) (with_reducible assumption)
    (first | (refine step_copy_run rfl _ _ 43 43 rfl _ _ rfl rfl _ _ hcp ?_))
  clear hcp hs1 hs2 c2'
  go_upto_region 6 with fail
  have H5 : Hid (Blk (U4.setCell ⟨b, 96, none⟩ (.int .i64 (m : Int))) b (cs4.set 96 (.int .i64 (m : Int))) 49 ∧ Blk (U4.setCell ⟨b, 96, none⟩ (.int .i64 (m : Int))) q (rqL rq0 (.slice none 0 0)) 34 ∧ Blk (U4.setCell ⟨b, 96, none⟩ (.int .i64 (m : Int))) q2 (rqL ⟨fl, kd, ck, ofs, ln⟩ (.slice A D.length C)) 34 ∧ Out (fun x => x = b) W1 (U4.setCell ⟨b, 96, none⟩ (.int .i64 (m : Int)))) :=
    ⟨H4.out.2.2.1.set 96 _, H4.out.1.set_other (a := ⟨b, 96, none⟩) HD.out.2.2.2.2.2.2.1 _, H4.out.2.1.set_other (a := ⟨b, 96, none⟩) H4.out.2.2.2.2.2.2.1 _, Out.setCell (O := fun x => x = b) H4.out.2.2.2.1 (.inl rfl) _⟩
  clear u96 uz
  revert H5
  generalize U4.setCell ⟨b, 96, none⟩ (.int .i64 (m : Int)) = U5
  intro H5
  have H6 : Hid (Blk U5.drew b (cs4.set 96 (.int .i64 (m : Int))) 49 ∧ Blk U5.drew q (rqL rq0 (.slice none 0 0)) 34 ∧ Blk U5.drew q2 (rqL ⟨fl, kd, ck, ofs, ln⟩ (.slice A D.length C)) 34 ∧ Out (fun x => x = b) W1 U5.drew) :=
    ⟨H5.out.1.drew, H5.out.2.1.drew, H5.out.2.2.1.drew, H5.out.2.2.2.drew⟩
  have a96 : U5.drew.cell? ⟨b, 96, none⟩ = some (.int .i64 (m : Int)) := by
    rw [H6.out.1.cell, List.getElem?_set, if_pos rfl, if_pos (by rw [H4.out.2.2.2.2.1]; decide)]
  have ht6 : U5.there b (m * 6) 6 := H5.out.1.there _ _ (by have := HD.out.2.2.2.2.2.2.2.2.1; rw [List.length_set, H4.out.2.2.2.2.1]; omega)
  obtain ⟨y0, g0⟩ := Option.isSome_iff_exists.1 (ht6 0 (by decide)).1
  have w0 := (ht6 0 (by decide)).2
  obtain ⟨y1, g1⟩ := Option.isSome_iff_exists.1 (ht6 1 (by decide)).1
  have w1 := (ht6 1 (by decide)).2
  obtain ⟨y2, g2⟩ := Option.isSome_iff_exists.1 (ht6 2 (by decide)).1
  have w2 := (ht6 2 (by decide)).2
  obtain ⟨y3, g3⟩ := Option.isSome_iff_exists.1 (ht6 3 (by decide)).1
  have w3 := (ht6 3 (by decide)).2
  obtain ⟨y4, g4⟩ := Option.isSome_iff_exists.1 (ht6 4 (by decide)).1
  have w4 := (ht6 4 (by decide)).2
  obtain ⟨y5, g5⟩ := Option.isSome_iff_exists.1 (ht6 5 (by decide)).1
  have w5 := (ht6 5 (by decide)).2
  simp only [Nat.add_zero] at g0 w0
  have H7 : Hid (Blk ((((((U5.setCell ⟨b, m * 6, none⟩ (.int .u16 0)).setCell ⟨b, m * 6 + 1, none⟩ (.int .u16 0)).setCell ⟨b, m * 6 + 2, none⟩ (.int .u64 0)).setCell ⟨b, m * 6 + 3, none⟩ (.int .u64 0)).setCell ⟨b, m * 6 + 4, none⟩ (.int .u32 0)).setCell ⟨b, m * 6 + 5, none⟩ (.slice none 0 0)).drew b (tkL cs k l.length) 49 ∧ Blk ((((((U5.setCell ⟨b, m * 6, none⟩ (.int .u16 0)).setCell ⟨b, m * 6 + 1, none⟩ (.int .u16 0)).setCell ⟨b, m * 6 + 2, none⟩ (.int .u64 0)).setCell ⟨b, m * 6 + 3, none⟩ (.int .u64 0)).setCell ⟨b, m * 6 + 4, none⟩ (.int .u32 0)).setCell ⟨b, m * 6 + 5, none⟩ (.slice none 0 0)).drew q (rqL rq0 (.slice none 0 0)) 34 ∧ Blk ((((((U5.setCell ⟨b, m * 6, none⟩ (.int .u16 0)).setCell ⟨b, m * 6 + 1, none⟩ (.int .u16 0)).setCell ⟨b, m * 6 + 2, none⟩ (.int .u64 0)).setCell ⟨b, m * 6 + 3, none⟩ (.int .u64 0)).setCell ⟨b, m * 6 + 4, none⟩ (.int .u32 0)).setCell ⟨b, m * 6 + 5, none⟩ (.slice none 0 0)).drew q2 (rqL ⟨fl, kd, ck, ofs, ln⟩ (.slice A D.length C)) 34 ∧ Out (fun x => x = b) W1 ((((((U5.setCell ⟨b, m * 6, none⟩ (.int .u16 0)).setCell ⟨b, m * 6 + 1, none⟩ (.int .u16 0)).setCell ⟨b, m * 6 + 2, none⟩ (.int .u64 0)).setCell ⟨b, m * 6 + 3, none⟩ (.int .u64 0)).setCell ⟨b, m * 6 + 4, none⟩ (.int .u32 0)).setCell ⟨b, m * 6 + 5, none⟩ (.slice none 0 0)).drew) := by
    have hm1 := HD.out.2.2.2.2.2.2.2.2.1
    have e1 : m = l.length - 1 := by omega
    have e2 : (m : Int) = (l.length : Int) - 1 := by omega
    refine ⟨?_, (H5.out.2.1.setCells_other HD.out.2.2.2.2.2.2.1 (m * 6) (rqL rq0 (.slice none 0 0))).drew, (H5.out.2.2.1.setCells_other H4.out.2.2.2.2.2.2.1 (m * 6) (rqL rq0 (.slice none 0 0))).drew, (out_setCells (fun x => x = b) rfl (rqL rq0 (.slice none 0 0)) (m * 6) _ H5.out.2.2.2).drew⟩
    have := H5.out.1.setCells (rqL rq0 (.slice none 0 0)) (m * 6) _ _ (by rw [rqL_length, List.length_set, H4.out.2.2.2.2.1]; omega)
    unfold tkL
    rw [← hcs4.out, ← e1, ← e2]
    exact this.drew
  have b96' : ((((((U5.setCell ⟨b, m * 6, none⟩ (.int .u16 0)).setCell ⟨b, m * 6 + 1, none⟩ (.int .u16 0)).setCell ⟨b, m * 6 + 2, none⟩ (.int .u64 0)).setCell ⟨b, m * 6 + 3, none⟩ (.int .u64 0)).setCell ⟨b, m * 6 + 4, none⟩ (.int .u32 0)).setCell ⟨b, m * 6 + 5, none⟩ (.slice none 0 0)).drew.cell? ⟨b, 96, none⟩ = some (.int .i64 (m : Int)) := by
    have := (H5.out.1.setCells (rqL rq0 (.slice none 0 0)) (m * 6) _ _ (by have := HD.out.2.2.2.2.2.2.2.2.1; rw [rqL_length, List.length_set, H4.out.2.2.2.2.1]; omega)).drew.cell 96
    rw [splice_hi (by have := HD.out.2.2.2.2.2.2.2.2.1; rw [rqL_length]; omega) (by have := HD.out.2.2.2.2.2.2.2.2.1; rw [rqL_length, List.length_set, H4.out.2.2.2.2.1]; omega), List.getElem?_set, if_pos rfl, if_pos (by rw [H4.out.2.2.2.2.1]; decide)] at this
    exact this
  have b96 : Hid (_ = _) := b96'
  clear b96'
  go_region_held3 (fun Y => Y.cell? ⟨b, 96, none⟩ = some (.int .i64 (m : Int))) (first | with_reducible assumption | exact b96.out) (fail)
  revert H7
  generalize hG : World.drew _ = U7
  intro H7
  have h7 := H7.out
  clear hG a96 b96 ht6 g0 g1 g2 g3 g4 g5 w0 w1 w2 w3 w4 w5 H6 H5
  have d0 : U7.cell? ⟨q2, 0, none⟩ = some (.int .u16 fl) := h7.2.2.1.cell 0
  have d1 : U7.cell? ⟨q2, 1, none⟩ = some (.int .u16 kd) := h7.2.2.1.cell 1
  have d2 : U7.cell? ⟨q2, 2, none⟩ = some (.int .u64 ck) := h7.2.2.1.cell 2
  have d3 : U7.cell? ⟨q2, 3, none⟩ = some (.int .u64 ofs) := h7.2.2.1.cell 3
  have d4 : U7.cell? ⟨q2, 4, none⟩ = some (.int .u32 ln) := h7.2.2.1.cell 4
  have d5 : U7.cell? ⟨q2, 5, none⟩ = some (.slice A D.length C) := h7.2.2.1.cell 5
  have e0 : U7.cell? ⟨q, 0, none⟩ = some (.int .u16 0) := h7.2.1.cell 0
  have e1 : U7.cell? ⟨q, 1, none⟩ = some (.int .u16 0) := h7.2.1.cell 1
  have e2 : U7.cell? ⟨q, 2, none⟩ = some (.int .u64 0) := h7.2.1.cell 2
  have e3 : U7.cell? ⟨q, 3, none⟩ = some (.int .u64 0) := h7.2.1.cell 3
  have e4 : U7.cell? ⟨q, 4, none⟩ = some (.int .u32 0) := h7.2.1.cell 4
  have e5 : U7.cell? ⟨q, 5, none⟩ = some (.slice none 0 0) := h7.2.1.cell 5
  have z0 := h7.2.1.frozen 0
  have z1 := h7.2.1.frozen 1
  have z2 := h7.2.1.frozen 2
  have z3 := h7.2.1.frozen 3
  have z4 := h7.2.1.frozen 4
  have z5 := h7.2.1.frozen 5
  clear h7
  go_wp2
  obtain ⟨k1, k2, k3, k4⟩ := H7.out
  obtain ⟨hp, hd, hb, h97, hone, hend, hnb, hn, hm, hb96⟩ := HD.out
  have r1 : Blk ((((((U7.setCell ⟨q, 0, none⟩ (.int .u16 fl)).setCell ⟨q, 1, none⟩ (.int .u16 kd)).setCell ⟨q, 2, none⟩ (.int .u64 ck)).setCell ⟨q, 3, none⟩ (.int .u64 ofs)).setCell ⟨q, 4, none⟩ (.int .u32 ln)).setCell ⟨q, 5, none⟩ (.slice A D.length C)) q (rqL ⟨fl, kd, ck, ofs, ln⟩ (.slice A D.length C)) 34 := k2.setAll (vs := rqL ⟨fl, kd, ck, ofs, ln⟩ (.slice A D.length C)) (by rfl)
  have r2 : Out (fun x => x = b ∨ x = q) W1 ((((((U7.setCell ⟨q, 0, none⟩ (.int .u16 fl)).setCell ⟨q, 1, none⟩ (.int .u16 kd)).setCell ⟨q, 2, none⟩ (.int .u64 ck)).setCell ⟨q, 3, none⟩ (.int .u64 ofs)).setCell ⟨q, 4, none⟩ (.int .u32 ln)).setCell ⟨q, 5, none⟩ (.slice A D.length C)) := out_setCells (g := q) (fun x => x = b ∨ x = q) (.inr rfl) (rqL ⟨fl, kd, ck, ofs, ln⟩ (.slice A D.length C)) 0 U7 (k4.mono (fun j e _ => .inl e))
  have r3 : Blk ((((((U7.setCell ⟨q, 0, none⟩ (.int .u16 fl)).setCell ⟨q, 1, none⟩ (.int .u16 kd)).setCell ⟨q, 2, none⟩ (.int .u64 ck)).setCell ⟨q, 3, none⟩ (.int .u64 ofs)).setCell ⟨q, 4, none⟩ (.int .u32 ln)).setCell ⟨q, 5, none⟩ (.slice A D.length C)) b (tkL cs k l.length) 49 := k1.setCells_other (fun e => hnb e.symm) 0 (rqL ⟨fl, kd, ck, ofs, ln⟩ (.slice A D.length C))
  have hty : ∀ c cur, W1.heap[c]? = some (.cells cur 5 (0, 0)) → ¬ (c = b ∨ c = q) := fun c cur hc e => by
    rcases e with e | e
    · exact blk_type hb hc pipe_not_u8 e
    · exact blk_type HP'.out.2.2 hc req_not_u8 e
  refine bodyPost_ret (results_cell_two (p := 4) (u := 5) (ty := 34) rfl _ _ q _ _ _ rfl r1 Try.underlying34 rfl Try.info_request _ rfl) rfl ⟨A, C, rfl, hd.out r2 (fun c cur _ hc => hty c cur hc), ?_, ?_⟩
  · have := hend U7 k hk k1 k4
    refine this.out (O := fun x => x = q) (out_setCells (g := q) (fun x => x = q) rfl (rqL ⟨fl, kd, ck, ofs, ln⟩ (.slice A D.length C)) 0 U7 (Out.refl _ _)) (fun e => hnb e.symm) (fun c cur _ hc => fun e => blk_type k2 hc req_not_u8 e)
  · exact ((below_out (fun x => x = b) HP'.out.2.1).trans r2 (fun j e => by rcases e with e | e; exact .inl e; exact .inr (by rw [e]; exact HQ.out)))
end Go.Proofs.Ythmhphjblglcoaa
