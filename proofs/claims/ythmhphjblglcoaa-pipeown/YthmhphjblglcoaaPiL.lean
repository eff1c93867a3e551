/- What one call of the program's All does. -/
import Derived.Test.YthmhphjblglcoaaPiG
import Derived.BigQuiet
namespace Go.Proofs.Ythmhphjblglcoaa
open Go.RowKit
set_option linter.unusedVariables false
set_option maxRecDepth 4000
theorem blk_own6 {w : World} {q : Nat} {l : List Pq} {us : List Value} (h : Blk w q (rqC l us) 34) (hl : (rqC l us).length = l.length * 6) (hm : l.length ≤ 16) : w.ownsRow 0 34 6 (.slice (some ⟨q, 0, none⟩) l.length l.length) l.length (rqC l us) :=
  ⟨hl, .inr ⟨q, l.length, _, rfl, Nat.zero_le _, h, Nat.le_refl _, by unfold maxLen; omega, by simp [hl], by rw [← hl]; simp⟩⟩
/-- The row that All makes, up to place j. -/
structure AlL (X : Nat → Prop) (W : World) (b q : Nat) (l : List Pq) (j : Nat) (wr : World) : Prop where
  pp : PP X wr b l
  bel : Below W.heap.size W wr
  ge : W.heap.size ≤ q
  row : ∃ cs us, Blk wr q cs 34 ∧ cs.length = l.length * 6 ∧ QsD (fun x => W.heap.size ≤ x) wr (l.take j) us ∧ cs.take (j * 6) = rqC (l.take j) us
section
variable {X : Nat → Prop} {W wr w1 : World} {b q j : Nat} {l : List Pq}
theorem AlL.qb (h : AlL X W b q l j wr) : q ≠ b := by
  obtain ⟨⟨_, cs, vs, h2, _⟩, _, _, cs', us, k2, _⟩ := h
  rintro rfl
  have e1 : wr.heap[q]? = some (.cells cs.toArray 49 (0, 0)) := h2
  have e2 : wr.heap[q]? = some (.cells cs'.toArray 34 (0, 0)) := k2
  rw [e1] at e2
  simp only [Option.some.injEq, Obj.cells.injEq] at e2
  exact absurd e2.2.1 (by decide)
theorem AlL.more {p : Pq} {v : Value} (h : AlL X W b q l j wr) (hb : Below wr.heap.size wr w1) (hp : l[j]? = some p) (hd : QD (fun x => W.heap.size ≤ x) w1 p v) : w1.there q (j * 6) 6 ∧ AlL X W b q l (j + 1) (w1.setCells q (j * 6) (rqL p.1 v)) := by
  have hqb := h.qb
  obtain ⟨hpp, hbel, hge, cs, us, k2, k3, k4, k5⟩ := h
  have hj := (List.getElem?_eq_some_iff.1 hp).1
  have hq1 : Blk w1 q cs 34 := k2.below hb k2.lt
  have hpp1 := hpp.below hb
  have hus := k4.1
  have ho : Out (fun x => x = q) w1 (w1.setCells q (j * 6) (rqL p.1 v)) := out_setCells (fun x => x = q) rfl _ _ _ (Out.refl _ _)
  have hty : ∀ c cur, w1.heap[c]? = some (.cells cur 5 (0, 0)) → ¬ c = q := fun c cur hc => blk_type hq1 hc req_not_u8
  refine ⟨hq1.there _ _ (by rw [k3]; omega), hpp1.out ho (fun e => hqb e.symm) (fun c cur _ hc => hty c cur hc), below_setCells hge _ _ _ (hbel.trans (hb.mono hbel.size)), hge, _, us ++ [v], hq1.setCells _ _ _ _ (by rw [rqL_length, k3]; omega), by rw [length_splice _ _ _ (by rw [rqL_length, k3]; omega), k3], ?_, ?_⟩
  · rw [take_snoc hp]
    exact ((k4.below hb).snoc hd).out ho (fun c cur _ hc => hty c cur hc)
  · rw [take_snoc hp, ← rqC_snoc _ _ _ _ hus, ← k5]
    unfold splice
    have e : (cs.take (j * 6) ++ rqL p.1 v).length = (j + 1) * 6 := by simp [rqL_length, k3]; omega
    rw [← List.append_assoc, List.take_append_of_le_length (by rw [e]; exact Nat.le_refl _), List.take_of_length_le (by rw [e]; exact Nat.le_refl _)]
theorem al_copy {p : Pq} {A1 : Option Addr} {C1 : Nat} {Wa : World} (hw : AlL X W b q l j wr) (hp : l[j]? = some p) (hd : QD X wr p (.slice A1 p.2.length C1)) (hba : Below wr.heap.size wr Wa) : Calls Try.prog 25 #[.agg #[.int .u16 p.1.fl, .int .u16 p.1.kd, .int .u64 p.1.ck, .int .u64 p.1.ofs, .int .u32 p.1.ln, .slice A1 p.2.length C1]] Wa fun e w2 => ∃ A' C', e = .returned (.agg #[.int .u16 p.1.fl, .int .u16 p.1.kd, .int .u64 p.1.ck, .int .u64 p.1.ofs, .int .u32 p.1.ln, .slice A' p.2.length C']) ∧ w2.there q (j * 6) 6 ∧ AlL X W b q l (j + 1) (w2.setCells q (j * 6) (rqL p.1 (.slice A' p.2.length C'))) := by
  obtain ⟨A1', C1', e1, hb1, hn1⟩ := hd.form
  cases e1
  have hcap : p.2.length ≤ C1 := by
    obtain ⟨h4, _⟩ := hd.1
    rcases h4.2 with ⟨hv, h0⟩ | ⟨g', cap', cur', hv, hB, hh, hnc, _⟩
    · rw [h0]; exact Nat.zero_le _
    · simp only [Value.slice.injEq] at hv; rw [hv.2.2]; exact hnc
  have hdin : DIn Wa A1 p.2.length C1 p.2 := ⟨hb1.below hba, hcap, hn1⟩
  refine (copied_of p A1 p.2.length C1 Wa hdin hd.2.1 hd.2.2).mono ?_
  rintro e w2 ⟨A', C', rfl, hd2, hb2⟩
  have hb3 : Below wr.heap.size wr w2 := hba.trans (hb2.mono hba.size)
  obtain ⟨k1, k2⟩ := hw.more hb3 hp (hd2.wider (fun x hx _ => by have := hw.bel.size; have := hba.size; exact Nat.le_trans (by omega) hx))
  exact ⟨A', C', rfl, k1, k2⟩
theorem AlL.gr (h : AlL X W b q l j wr) (hj : j = l.length) : Gr (fun x => W.heap.size ≤ x) W.heap.size W wr (some ⟨q, 0, none⟩) j l := by
  subst hj
  obtain ⟨hpp, hbel, hge, cs, us, k2, k3, k4, k5⟩ := h
  rw [List.take_of_length_le (Nat.le_refl _)] at k4 k5
  rw [List.take_of_length_le (by omega)] at k5
  refine ⟨⟨us, ?_, k4⟩, fun g hg => by cases hg; exact hge, hbel⟩
  rw [k5] at k2
  exact blk_own6 k2 (rqC_length l us k4.1) hpp.few
theorem alL_start {n : Nat} (h1 : PP X wr b l) (h2 : Blk wr q (madeCells #[.int .u16 0, .int .u16 0, .int .u64 0, .int .u64 0, .int .u32 0, .slice none 0 0] (n * 6)).toList 34) (h3 : Below W.heap.size W wr) (hn : n = l.length) (hq : W.heap.size ≤ q) (k : Nat) : AlL X W b q l 0 (wr.drewN k) :=
  ⟨h1.below ⟨rfl, rfl, rfl, Nat.le_refl _, fun _ _ => rfl⟩, h3.trans ⟨rfl, rfl, rfl, Nat.le_refl _, fun _ _ => rfl⟩, hq, _, [], h2.drewN k, by simp [madeCells, hn], QsD.nil, rfl⟩
end
def zrq : Array Value := #[.int .u16 0, .int .u16 0, .int .u64 0, .int .u64 0, .int .u32 0, .slice none 0 0]
theorem made_rqs (n : Nat) (W : World) (hn : n ≤ 100000) : (Instr.makeSlice 43 (.int .i64 (n : Int)) (.int .i64 (n : Int))).run Try.prog W = .ok (.slice (some ⟨W.heap.size, 0, none⟩) n n) (W.alloc (.cells (madeCells zrq (n * 6)) 34)) := by
  obtain ⟨i0, hi, hz0, hz1, hz2⟩ := info_parts Try.zero_request
  have := run_make (P := Try.prog) W 43 34 i0 _ Try.under_reqs hi hz0 .i64 .i64 n n (by omega) (Int.le_refl _) (by rw [hz2]; omega) (by omega)
  simp only [Int.toNat_natCast, hz1] at this
  exact this
set_option maxHeartbeats 2000000 in
theorem pAll_of {X : Nat → Prop} {W : World} {b : Nat} {l : List Pq} (h : PP X W b l) :
    Calls Try.prog 23 #[.pointer (some ⟨b, 0, none⟩)] W fun e w' => ∃ A C, e = .returned (.slice A l.length C) ∧ Gr (fun x => W.heap.size ≤ x) W.heap.size W w' A C l := by
  have hfew := h.few
  obtain ⟨n, hn⟩ : ∃ n, n = l.length := ⟨_, rfl⟩
  have c := h.len
  rw [← hn] at c
  obtain ⟨q, hq⟩ : ∃ q, q = W.heap.size := ⟨_, rfl⟩
  have hmk := made_rqs n W (by omega)
  have hsl : ∀ wr, (Instr.sliceAt 47 (.pointer (some ⟨b, 0, none⟩)) none (some (.int .i64 (n : Int))) none).run Try.prog wr = .ok (.slice (some ⟨b, 0, none⟩) n 16) wr := fun wr => run_part6_h (P := Try.prog) Try.under_arr Try.info_request wr b 0 .i64 (n : Int) n rfl (by omega) (by omega)
  have HP : Hid (PP X W b l ∧ n = l.length ∧ q = W.heap.size) := ⟨h, hn, hq⟩
  clear h hn hq
  go_enter Try.func23, Try.ntmps23
  go_upto_region 2 with fail
  rw [← HP.out.2.2]
  generalize hW1 : World.alloc W _ = W1
  have HW : Hid (PP X W1 b l ∧ Blk W1 q (madeCells zrq (n * 6)).toList 34 ∧ Below W.heap.size W W1) := by
    subst hW1
    exact ⟨HP.out.1.below ((Below.refl _ _).alloc (Nat.le_refl _) _), Blk.new' HP.out.2.2.symm (by simp), (Below.refl _ _).alloc (Nat.le_refl _) _⟩
  have c1 : W1.cell? ⟨b, 96, none⟩ = some (.int .i64 (n : Int)) := by rw [HP.out.2.1]; exact HW.out.1.len
  clear hW1 hmk c
  go_quiet (fail)
  go_wp2
  go_loopw [20] (fun x wr => ∃ (j : Nat), x = .int .i64 j ∧ j ≤ n ∧ AlL X W b q l j wr) (fun x _ => n - (intOf x).toNat)
  case atStart => exact ⟨0, rfl, Nat.zero_le _, alL_start HW.out.1 HW.out.2.1 HW.out.2.2 HP.out.2.1 (by rw [HP.out.2.2]; exact Nat.le_refl _) nq⟩
  case round =>
    obtain ⟨j, rfl, hj, hw⟩ := hrel
    have hlj : j ≤ l.length := by rw [← HP.out.2.1]; exact hj
    by_cases hlt : j < n
    · have hlt2 : j < l.length := by rw [← HP.out.2.1]; exact hlt
      have hj' : (j : Int) < n := by omega
      have hwj : IntKind.i64.wrap ((j : Int) + 1) = (j : Int) + 1 := by rw [IntKind.wrap_i64]; omega
      obtain ⟨p, A1, C1, hp, hd, hcl⟩ := hw.pp.at hlt2
      have x0 : wr.cell? ⟨b, j * 6, none⟩ = some (.int .u16 p.1.fl) := hcl 0 _ rfl
      have x1 : wr.cell? ⟨b, j * 6 + 1, none⟩ = some (.int .u16 p.1.kd) := hcl 1 _ rfl
      have x2 : wr.cell? ⟨b, j * 6 + 2, none⟩ = some (.int .u64 p.1.ck) := hcl 2 _ rfl
      have x3 : wr.cell? ⟨b, j * 6 + 3, none⟩ = some (.int .u64 p.1.ofs) := hcl 3 _ rfl
      have x4 : wr.cell? ⟨b, j * 6 + 4, none⟩ = some (.int .u32 p.1.ln) := hcl 4 _ rfl
      have x5 : wr.cell? ⟨b, j * 6 + 5, none⟩ = some (.slice A1 p.2.length C1) := hcl 5 _ rfl
      have HL0 : ∀ Wa, Below wr.heap.size wr Wa → Calls Try.prog 25 #[.agg #[.int .u16 p.1.fl, .int .u16 p.1.kd, .int .u64 p.1.ck, .int .u64 p.1.ofs, .int .u32 p.1.ln, .slice A1 p.2.length C1]] Wa fun e w2 => ∃ A' C', e = .returned (.agg #[.int .u16 p.1.fl, .int .u16 p.1.kd, .int .u64 p.1.ck, .int .u64 p.1.ofs, .int .u32 p.1.ln, .slice A' p.2.length C']) ∧ w2.there q (j * 6) 6 ∧ AlL X W b q l (j + 1) (w2.setCells q (j * 6) (rqL p.1 (.slice A' p.2.length C'))) := fun Wa hba => al_copy hw hp hd hba
      have HL : Hid (Calls Try.prog 25 #[.agg #[.int .u16 p.1.fl, .int .u16 p.1.kd, .int .u64 p.1.ck, .int .u64 p.1.ofs, .int .u32 p.1.ln, .slice A1 p.2.length C1]] (wr.alloc (.cells #[.int .u16 p.1.fl, .int .u16 p.1.kd, .int .u64 p.1.ck, .int .u64 p.1.ofs, .int .u32 p.1.ln, .slice A1 p.2.length C1] 34)) fun e w2 => ∃ A' C', e = .returned (.agg #[.int .u16 p.1.fl, .int .u16 p.1.kd, .int .u64 p.1.ck, .int .u64 p.1.ofs, .int .u32 p.1.ln, .slice A' p.2.length C']) ∧ w2.there q (j * 6) 6 ∧ AlL X W b q l (j + 1) (w2.setCells q (j * 6) (rqL p.1 (.slice A' p.2.length C')))) := HL0 _ ((Below.refl _ _).alloc (Nat.le_refl _) _)
      clear HL0
      clear hd hp hw hcl
      go_wp2_with (first
        | (go_at_call 25; refine HL.out.mono ?_; rintro e w2 ⟨A', C', rfl, ht, s9⟩; obtain ⟨y0, g0⟩ := Option.isSome_iff_exists.1 (ht 0 (by decide)).1; have z0 := (ht 0 (by decide)).2; obtain ⟨y1, g1⟩ := Option.isSome_iff_exists.1 (ht 1 (by decide)).1; have z1 := (ht 1 (by decide)).2; obtain ⟨y2, g2⟩ := Option.isSome_iff_exists.1 (ht 2 (by decide)).1; have z2 := (ht 2 (by decide)).2; obtain ⟨y3, g3⟩ := Option.isSome_iff_exists.1 (ht 3 (by decide)).1; have z3 := (ht 3 (by decide)).2; obtain ⟨y4, g4⟩ := Option.isSome_iff_exists.1 (ht 4 (by decide)).1; have z4 := (ht 4 (by decide)).2; obtain ⟨y5, g5⟩ := Option.isSome_iff_exists.1 (ht 5 (by decide)).1; have z5 := (ht 5 (by decide)).2; simp only [Nat.add_zero] at g0 z0; have S9 : Hid (AlL X W b q l (j + 1) (w2.setCells q (j * 6) (rqL p.1 (.slice A' p.2.length C')))) := s9; clear s9 ht))
      have H9 : Hid (AlL X W b q l (j + 1) ((((((w2.setCell ⟨q, j * 6, none⟩ (.int .u16 p.1.fl)).setCell ⟨q, j * 6 + 1, none⟩ (.int .u16 p.1.kd)).setCell ⟨q, j * 6 + 2, none⟩ (.int .u64 p.1.ck)).setCell ⟨q, j * 6 + 3, none⟩ (.int .u64 p.1.ofs)).setCell ⟨q, j * 6 + 4, none⟩ (.int .u32 p.1.ln)).setCell ⟨q, j * 6 + 5, none⟩ (.slice A' p.2.length C'))) := S9.out
      clear S9
      go_wp2
      go_roundw
      case rel => exact ⟨j + 1, by simp, by omega, H9.out⟩
      case measure => simp [intOf]; omega
    · obtain rfl : j = n := by omega
      have HT : Hid (Gr (fun x => W.heap.size ≤ x) W.heap.size W wr (some ⟨q, 0, none⟩) j l ∧ j = l.length) := ⟨hw.gr HP.out.2.1, HP.out.2.1⟩
      clear hw
      go_wp2
      go_ret
      exact ⟨some ⟨q, 0, none⟩, j, by rw [← HT.out.2]; rfl, HT.out.1⟩
end Go.Proofs.Ythmhphjblglcoaa
