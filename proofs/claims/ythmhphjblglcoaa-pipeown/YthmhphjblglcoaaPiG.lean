/- A row of requests of the call's own that grows; what one call of the document's Take and All does. -/
import Derived.Test.YthmhphjblglcoaaPiS
namespace Go.Proofs.Ythmhphjblglcoaa
open Go.RowKit
set_option linter.unusedVariables false
set_option maxRecDepth 4000
theorem take_snoc {α : Type} {l : List α} {j : Nat} {p : α} (h : l[j]? = some p) : l.take (j + 1) = l.take j ++ [p] := by
  obtain ⟨hj, rfl⟩ := List.getElem?_eq_some_iff.1 h
  exact List.take_succ_eq_append_getElem hj
structure Gr (X : Nat → Prop) (q : Nat) (W wr : World) (A : Option Addr) (C : Nat) (l : List Pq) : Prop where
  ow : ∃ us, wr.ownsRow 0 34 6 (.slice A l.length C) l.length (rqC l us) ∧ QsD X wr l us
  hi : ∀ g, (Value.slice A l.length C).ownBlock = some g → q ≤ g
  bel : Below q W wr
section
variable {X : Nat → Prop} {q : Nat} {W wr w1 w' : World} {A : Option Addr} {C : Nat} {l : List Pq}
theorem Gr.start (X : Nat → Prop) (W : World) : Gr X W.heap.size W W none 0 [] := ⟨⟨[], World.ownsRow_nil _ _ _ _, QsD.nil⟩, (fun g h => by cases h), Below.refl _ _⟩
theorem Gr.below (h : Gr X q W wr A C l) (hq : q ≤ wr.heap.size) (hb : Below wr.heap.size wr w') : Gr X q W w' A C l := by
  obtain ⟨⟨us, h1, h2⟩, h3, h4⟩ := h
  exact ⟨⟨us, (below_out Non hb).own h1 (fun _ _ e => e), h2.below hb⟩, h3, h4.trans (hb.mono hq)⟩
theorem Gr.more {p : Pq} {a1 : Option Addr} {n1 c1 : Nat} (h : Gr X q W wr A C l) (hq : q ≤ wr.heap.size) (hb : Below wr.heap.size wr w1) (hd : QD X w1 p (.slice a1 n1 c1)) (hl : l.length + 1 ≤ 1000) :
    ∃ a9 c9 w9, (Builtin.append_ #[43, 43] 43 #[.slice A l.length C, .slice (some ⟨w1.heap.size, 0, none⟩) 1 1]).run Try.prog (w1.alloc (.cells #[.int .u16 p.1.fl, .int .u16 p.1.kd, .int .u64 p.1.ck, .int .u64 p.1.ofs, .int .u32 p.1.ln, .slice a1 n1 c1] 34)) = .ok (.slice a9 (l.length + 1) c9) w9 ∧ Gr X q W w9 a9 c9 (l ++ [p]) ∧ Below q w1 w9 := by
  have h' := h.below hq hb
  obtain ⟨⟨us, h1, h2⟩, h3, h4⟩ := h'
  obtain ⟨a9, c9, w9, e9, o9, b9, g9⟩ := app_req h1 p.1 a1 n1 c1 (by omega)
  have hs := hb.size
  have hty : ∀ c cur, w1.heap[c]? = some (.cells cur 5 (0, 0)) → ¬ (Value.slice A l.length C).ownBlock = some c := fun c cur hc hg => by
    obtain ⟨cur', hc'⟩ := own_at_block h1 hg
    rw [hc] at hc'
    simp only [Option.some.injEq, Obj.cells.injEq] at hc'
    exact absurd hc'.2.1 (by decide)
  have hbel : Below q w1 w9 := b9.below (by omega) (fun k hk => h3 k hk)
  refine ⟨a9, c9, w9, e9, ⟨⟨us ++ [.slice a1 n1 c1], ?_, (h2.snoc hd).out b9 (fun c cur _ hc => hty c cur hc)⟩, fun g hg => ?_, h4.trans hbel⟩, hbel⟩
  · rw [← rqC_snoc _ _ _ _ h2.1, List.length_append]
    exact o9
  · rw [List.length_append] at hg
    rcases g9 with e | e
    · exact h3 g (by rw [← e]; exact hg)
    · have := e g hg; omega
theorem Gr.rs (h : Gr X q W wr A C l) : RsIn wr A l.length l := by
  obtain ⟨⟨us, h1, h2⟩, h3, h4⟩ := h
  exact own_rsin h1 h2
end
section
variable {X : Nat → Prop} {w w' : World} {b : Nat} {l : List Pq}
theorem PD.at (h : PD X w b l) : ∃ A C, w.cell? ⟨b, 0, none⟩ = some (.slice A l.length C) ∧ RsIn w A l.length l ∧ ∀ (i : Nat), i < l.length → ∃ g p A1 C1, A = some ⟨g, 0, none⟩ ∧ l[i]? = some p ∧ QD X w p (.slice A1 p.2.length C1) ∧ ∀ (j : Nat) (v : Value), (rqL p.1 (.slice A1 p.2.length C1))[j]? = some v → w.cell? ⟨g, i * 6 + j, none⟩ = some v := by
  obtain ⟨h1, v, vs, h2, h3, h4, _⟩ := h
  obtain ⟨A, C, rfl⟩ := own_slice h3
  refine ⟨A, C, h2.cell 0, own_rsin h3 h4, fun i hi => ?_⟩
  rcases h3.2 with ⟨hv, h0⟩ | ⟨g, cap, cur, hv, r⟩
  · omega
  · simp only [Value.slice.injEq] at hv
    obtain ⟨rfl, _, _⟩ := hv
    obtain ⟨v, hv⟩ : ∃ v, vs[i]? = some v := ⟨vs[i]'(by rw [h4.1]; exact hi), by simp⟩
    have hp : l[i]? = some l[i] := by simp
    have hq := h4.2 i l[i] v hp hv
    obtain ⟨A', C', rfl, _⟩ := hq.form
    refine ⟨g, l[i], A', C', rfl, hp, hq, fun j u hu => ?_⟩
    have hj : j < 6 := by have := (List.getElem?_eq_some_iff.1 hu).1; simpa [rqL] using this
    have := h3.cells (g := g) rfl (i * 6 + j) u (by rw [rqC_get l vs i _ _ j hp hv hj]; exact hu)
    rw [Addr.add_mid, Nat.zero_add] at this
    exact this
/-- Another block of requests is written, outside of the pipe's row. -/
theorem PD.past {q : Nat} {cs : List Value} (h : PD X w b l) (ho : Out (fun x => x = q) w w') (hq : Blk w q cs 34) (hn : ∀ A C, w.cell? ⟨b, 0, none⟩ = some (.slice A l.length C) → ∀ g, (Value.slice A l.length C).ownBlock = some g → g ≠ q) : PD X w' b l := by
  obtain ⟨h1, v, vs, h2, h3, h4, h5⟩ := h
  obtain ⟨A, C, rfl⟩ := own_slice h3
  refine ⟨h1, _, vs, ho.blk h2 ?_, ho.own h3 (fun g hg => hn A C (h2.cell 0) g hg), h4.out ho (fun c cur _ hc => blk_type hq hc req_not_u8), h5⟩
  rintro rfl
  have e1 : w.heap[b]? = some (.cells #[.slice A l.length C] 51 (0, 0)) := h2
  have e2 : w.heap[b]? = some (.cells cs.toArray 34 (0, 0)) := hq
  rw [e1] at e2
  simp only [Option.some.injEq, Obj.cells.injEq] at e2
  exact absurd e2.2.1 (by decide)
/-- A row of one's own becomes the pipe's. -/
theorem Gr.pipe {q : Nat} {W wr : World} {A : Option Addr} {C : Nat} {m : List Pq} {v0 : Value} (h : Gr X q W wr A C m) (hb : Blk wr b [v0] 51) (hbq : b < q) (hm : m.length ≤ 16) :
    PD X (wr.setCell ⟨b, 0, none⟩ (.slice A m.length C)) b m := by
  obtain ⟨⟨us, h1, h2⟩, h3, h4⟩ := h
  have ho := Out.setCell (O := fun x => x = b) (p := ⟨b, 0, none⟩) (Out.refl _ wr) (.inl rfl) (.slice A m.length C)
  exact ⟨hm, _, us, hb.set 0 _, ho.own h1 (fun g hg => by have := h3 g hg; omega), h2.out ho (fun c cur _ hc => blk_type hb hc dpipe_not_u8), fun g hg => by have := h3 g hg; omega⟩
end
/-- The list without place k, up to i. -/
def exL (l : List Pq) (k i : Nat) : List Pq := if i ≤ k then l.take i else (l.take i).eraseIdx k
theorem exL_skip {l : List Pq} {k : Nat} (h : k < l.length) : exL l k (k + 1) = exL l k k := by
  unfold exL
  rw [if_neg (by omega), if_pos (Nat.le_refl _), List.take_succ_eq_append_getElem h]
  rw [List.eraseIdx_append_of_length_le (by simp; omega)]
  simp [show min k l.length = k by omega]
theorem exL_more {l : List Pq} {k i : Nat} {p : Pq} (hp : l[i]? = some p) (hne : i ≠ k) : exL l k (i + 1) = exL l k i ++ [p] := by
  obtain ⟨hi, rfl⟩ := List.getElem?_eq_some_iff.1 hp
  unfold exL
  by_cases h : i + 1 ≤ k
  · rw [if_pos h, if_pos (by omega), List.take_succ_eq_append_getElem hi]
  · rw [if_neg h, if_neg (by omega), List.take_succ_eq_append_getElem hi, List.eraseIdx_append_of_lt_length (by simp; omega)]
theorem exL_all {l : List Pq} {k : Nat} (h : k < l.length) : exL l k l.length = l.eraseIdx k := by
  unfold exL; rw [if_neg (by omega), List.take_of_length_le (Nat.le_refl _)]
theorem exL_length {l : List Pq} {k i : Nat} (hi : i ≤ l.length) : (exL l k i).length ≤ i := by
  unfold exL; split
  · simp; omega
  · simp [List.length_eraseIdx]; split <;> omega
set_option maxHeartbeats 2000000 in
theorem dpAll_of {X : Nat → Prop} {W : World} {b : Nat} {l : List Pq} (h : PD X W b l) :
    Calls Try.prog 24 #[.pointer (some ⟨b, 0, none⟩)] W fun e w' => ∃ A C, e = .returned (.slice A l.length C) ∧ Gr (fun x => W.heap.size ≤ x) W.heap.size W w' A C l := by
  have hfew := h.few
  have HP : Hid (PD X W b l) := h
  clear h
  go_enter Try.func24, Try.ntmps24
  go_wp2
  go_loopw [3, 4] (fun v x wr => ∃ (j : Nat) (A : Option Addr) (C : Nat), v = .slice A j C ∧ x = .int .i64 j ∧ j ≤ l.length ∧ Gr (fun x => W.heap.size ≤ x) W.heap.size W wr A C (l.take j)) (fun _ x _ => l.length - (intOf x).toNat)
  case atStart => exact ⟨0, none, 0, rfl, rfl, Nat.zero_le _, by simpa using Gr.start _ W⟩
  case round =>
    obtain ⟨j, A, C, rfl, rfl, hj, hw⟩ := hrel
    have hP := HP.out.below hw.bel
    obtain ⟨A0, C0, hc, hrs, hat⟩ := hP.at
    have hlj : (l.take j).length = j := by simp; omega
    by_cases hlt : j < l.length
    · have hj' : (j : Int) < l.length := by omega
      have hwj : IntKind.i64.wrap ((j : Int) + 1) = (j : Int) + 1 := by rw [IntKind.wrap_i64]; omega
      obtain ⟨g, p, A1, C1, rfl, hp, hd, hcl⟩ := hat j hlt
      have x0 : wr.cell? ⟨g, j * 6, none⟩ = some (.int .u16 p.1.fl) := hcl 0 _ rfl
      have x1 : wr.cell? ⟨g, j * 6 + 1, none⟩ = some (.int .u16 p.1.kd) := hcl 1 _ rfl
      have x2 : wr.cell? ⟨g, j * 6 + 2, none⟩ = some (.int .u64 p.1.ck) := hcl 2 _ rfl
      have x3 : wr.cell? ⟨g, j * 6 + 3, none⟩ = some (.int .u64 p.1.ofs) := hcl 3 _ rfl
      have x4 : wr.cell? ⟨g, j * 6 + 4, none⟩ = some (.int .u32 p.1.ln) := hcl 4 _ rfl
      have x5 : wr.cell? ⟨g, j * 6 + 5, none⟩ = some (.slice A1 p.2.length C1) := hcl 5 _ rfl
      have HL : Hid (Calls Try.prog 26 #[.agg #[.int .u16 p.1.fl, .int .u16 p.1.kd, .int .u64 p.1.ck, .int .u64 p.1.ofs, .int .u32 p.1.ln, .slice A1 p.2.length C1]] wr fun e w2 => ∃ A' C', e = .returned (.agg #[.int .u16 p.1.fl, .int .u16 p.1.kd, .int .u64 p.1.ck, .int .u64 p.1.ofs, .int .u32 p.1.ln, .slice A' p.2.length C']) ∧ ∃ a9 c9 w9, (Builtin.append_ #[43, 43] 43 #[.slice A j C, .slice (some ⟨w2.heap.size, 0, none⟩) 1 1]).run Try.prog (w2.alloc (.cells #[.int .u16 p.1.fl, .int .u16 p.1.kd, .int .u64 p.1.ck, .int .u64 p.1.ofs, .int .u32 p.1.ln, .slice A' p.2.length C'] 34)) = .ok (.slice a9 (j + 1) c9) w9 ∧ Gr (fun x => W.heap.size ≤ x) W.heap.size W w9 a9 c9 (l.take (j + 1))) := by
        obtain ⟨A1', C1', e1, hb1, hn1⟩ := hd.form
        cases e1
        have hcap : p.2.length ≤ C1 := by
          obtain ⟨h4, _⟩ := hd.1
          rcases h4.2 with ⟨hv, h0⟩ | ⟨g', cap', cur', hv, hB, hh, hnc, _⟩
          · rw [h0]; exact Nat.zero_le _
          · simp only [Value.slice.injEq] at hv; rw [hv.2.2]; exact hnc
        refine (lent_of p A1 p.2.length C1 wr ⟨hb1, hcap, hn1⟩ hd.2.1 hd.2.2).mono ?_
        rintro e w2 ⟨A', C', rfl, hd2, hb2⟩
        obtain ⟨a9, c9, w9, e9, g9, _⟩ := hw.more hw.bel.size hb2 (hd2.wider (fun x hx _ => Nat.le_trans hw.bel.size hx)) (by rw [hlj]; omega)
        rw [hlj] at e9
        rw [take_snoc hp]
        exact ⟨A', C', rfl, a9, c9, w9, e9, g9⟩
      clear hd hp hw hP hrs hat hcl
      go_wp2_with (first
        | (go_at_call 26; refine HL.out.mono ?_; rintro e w1 ⟨A', C', rfl, a9, c9, w9, e9, s9⟩)
        | (at_builtin; refine wpList_append_run rfl _ _ 43 43 rfl _ _ rfl rfl _ _ e9 ?_))
      have H9 : Hid (Gr (fun x => W.heap.size ≤ x) W.heap.size W w9 a9 c9 (l.take (j + 1))) := s9
      clear s9 e9
      go_wp2
      go_roundw
      case rel => exact ⟨j + 1, a9, c9, rfl, by simp, by omega, H9.out⟩
      case measure => simp [intOf]; omega
    · obtain rfl : j = l.length := by omega
      have HT : Hid (Gr (fun x => W.heap.size ≤ x) W.heap.size W wr A C l) := by
        rw [List.take_of_length_le (Nat.le_refl _)] at hw
        exact hw
      clear hw hat hrs hP
      go_wp2
      go_ret
      exact ⟨A, C, rfl, HT.out⟩
set_option maxHeartbeats 2000000 in
theorem dpTake_none {X : Nat → Prop} {W : World} {b : Nat} {l : List Pq} (k : Int) (h : PD X W b l) (hk : ¬ (0 ≤ k ∧ k < l.length)) :
    Calls Try.prog 16 #[.pointer (some ⟨b, 0, none⟩), .int .i64 k] W fun e w' => e = .returned (.tuple #[.agg (rqL rq0 (.slice none 0 0)).toArray, .bool false]) ∧ Below W.heap.size W w' := by
  obtain ⟨q, hq⟩ : ∃ q, q = W.heap.size := ⟨_, rfl⟩
  have hbW : Below W.heap.size W (W.alloc (.cells (rqL rq0 (.slice none 0 0)).toArray 34)) := (Below.refl _ _).alloc (Nat.le_refl _) _
  have HP : Hid (PD X (W.alloc (.cells (rqL rq0 (.slice none 0 0)).toArray 34)) b l ∧ Below W.heap.size W (W.alloc (.cells (rqL rq0 (.slice none 0 0)).toArray 34)) ∧ Blk (W.alloc (.cells (rqL rq0 (.slice none 0 0)).toArray 34)) q (rqL rq0 (.slice none 0 0)) 34) := ⟨h.below hbW, hbW, Blk.new' hq.symm rfl⟩
  clear h hbW
  have HQ : Hid (W.heap.size ≤ q) := by show _ ≤ _; omega
  go_enter Try.func16, Try.ntmps16
  go_upto_region 1 with fail
  rw [← hq]
  generalize hW : World.alloc W _ = W1
  have HP' : Hid (PD X W1 b l ∧ Below W.heap.size W W1 ∧ Blk W1 q (rqL rq0 (.slice none 0 0)) 34) := by rw [← hW]; exact HP.out
  clear HP hW hq
  obtain ⟨A0, C0, c, _, _⟩ := HP'.out.1.at
  have d0 : W1.cell? ⟨q, 0, none⟩ = some (.int .u16 0) := HP'.out.2.2.cell 0
  have d1 : W1.cell? ⟨q, 1, none⟩ = some (.int .u16 0) := HP'.out.2.2.cell 1
  have d2 : W1.cell? ⟨q, 2, none⟩ = some (.int .u64 0) := HP'.out.2.2.cell 2
  have d3 : W1.cell? ⟨q, 3, none⟩ = some (.int .u64 0) := HP'.out.2.2.cell 3
  have d4 : W1.cell? ⟨q, 4, none⟩ = some (.int .u32 0) := HP'.out.2.2.cell 4
  have d5 : W1.cell? ⟨q, 5, none⟩ = some (.slice none 0 0) := HP'.out.2.2.cell 5
  have z0 := HP'.out.2.2.frozen 0
  have z1 := HP'.out.2.2.frozen 1
  have z2 := HP'.out.2.2.frozen 2
  have z3 := HP'.out.2.2.frozen 3
  have z4 := HP'.out.2.2.frozen 4
  have z5 := HP'.out.2.2.frozen 5
  have HB3 : Hid (Blk ((((((W1.setCell ⟨q, 0, none⟩ (.int .u16 0)).setCell ⟨q, 1, none⟩ (.int .u16 0)).setCell ⟨q, 2, none⟩ (.int .u64 0)).setCell ⟨q, 3, none⟩ (.int .u64 0)).setCell ⟨q, 4, none⟩ (.int .u32 0)).setCell ⟨q, 5, none⟩ (.slice none 0 0)) q (rqL rq0 (.slice none 0 0)) 34 ∧ Below W.heap.size W ((((((W1.setCell ⟨q, 0, none⟩ (.int .u16 0)).setCell ⟨q, 1, none⟩ (.int .u16 0)).setCell ⟨q, 2, none⟩ (.int .u64 0)).setCell ⟨q, 3, none⟩ (.int .u64 0)).setCell ⟨q, 4, none⟩ (.int .u32 0)).setCell ⟨q, 5, none⟩ (.slice none 0 0))) := by
    have hqs : W.heap.size ≤ q := HQ.out
    exact ⟨HP'.out.2.2.setAll (vs := rqL rq0 (.slice none 0 0)) (by rfl), below_setCells (g := q) hqs (rqL rq0 (.slice none 0 0)) 0 W1 HP'.out.2.1⟩
  by_cases h1 : k < 0
  · go_wp2
    refine bodyPost_ret (results_cell_two (p := 4) (u := 5) (ty := 34) rfl _ _ q _ _ _ rfl HB3.out.1 Try.underlying34 rfl Try.info_request _ rfl) rfl ⟨rfl, HB3.out.2⟩
  · have h2 : (l.length : Int) ≤ k := by omega
    go_wp2
    refine bodyPost_ret (results_cell_two (p := 4) (u := 5) (ty := 34) rfl _ _ q _ _ _ rfl HB3.out.1 Try.underlying34 rfl Try.info_request _ rfl) rfl ⟨rfl, HB3.out.2⟩
set_option maxHeartbeats 2000000 in
theorem dpTake_one {X : Nat → Prop} {W : World} {b k : Nat} {l : List Pq} (p : Pq) (h : PD X W b l) (hp0 : l[k]? = some p) :
    Calls Try.prog 16 #[.pointer (some ⟨b, 0, none⟩), .int .i64 (k : Int)] W fun e w' => ∃ A C, e = .returned (.tuple #[.agg (rqL p.1 (.slice A p.2.length C)).toArray, .bool true]) ∧ QD X w' p (.slice A p.2.length C) ∧ PD X w' b (l.eraseIdx k) ∧ Out (fun x => x = b) W w' := by
  have hk : k < l.length := (List.getElem?_eq_some_iff.1 hp0).1
  have HP0 : Hid (l[k]? = some p) := hp0
  clear hp0
  obtain ⟨⟨fl, kd, ck, ofs, ln⟩, D⟩ := p
  have hfew := h.few
  obtain ⟨q, hq⟩ : ∃ q, q = W.heap.size := ⟨_, rfl⟩
  have hbW : Below W.heap.size W (W.alloc (.cells (rqL rq0 (.slice none 0 0)).toArray 34)) := (Below.refl _ _).alloc (Nat.le_refl _) _
  have HP : Hid (PD X (W.alloc (.cells (rqL rq0 (.slice none 0 0)).toArray 34)) b l ∧ Below W.heap.size W (W.alloc (.cells (rqL rq0 (.slice none 0 0)).toArray 34)) ∧ Blk (W.alloc (.cells (rqL rq0 (.slice none 0 0)).toArray 34)) q (rqL rq0 (.slice none 0 0)) 34) := ⟨h.below hbW, hbW, Blk.new' hq.symm rfl⟩
  have h1 : ¬ (k : Int) < 0 := by omega
  have h2 : ¬ (l.length : Int) ≤ (k : Int) := by omega
  have h3 : (k : Int) < l.length := by omega
  have HQ : Hid (W.heap.size ≤ q ∧ b < W.heap.size) := by have := h.lt; show _ ∧ _; omega
  clear h hbW
  go_enter Try.func16, Try.ntmps16
  go_upto_region 1 with fail
  rw [← hq]
  generalize hW : World.alloc W _ = W1
  have HP' : Hid (PD X W1 b l ∧ Below W.heap.size W W1 ∧ Blk W1 q (rqL rq0 (.slice none 0 0)) 34) := by rw [← hW]; exact HP.out
  clear HP hW hq
  obtain ⟨A0, C0, c, hrs, hat⟩ := HP'.out.1.at
  obtain ⟨g, p', A1, C1, rfl, hp, hd, hcl⟩ := hat k hk
  obtain rfl : p' = (⟨fl, kd, ck, ofs, ln⟩, D) := by have := HP0.out; rw [hp] at this; exact Option.some.inj this
  have x0 : W1.cell? ⟨g, k * 6, none⟩ = some (.int .u16 fl) := hcl 0 _ rfl
  have x1 : W1.cell? ⟨g, k * 6 + 1, none⟩ = some (.int .u16 kd) := hcl 1 _ rfl
  have x2 : W1.cell? ⟨g, k * 6 + 2, none⟩ = some (.int .u64 ck) := hcl 2 _ rfl
  have x3 : W1.cell? ⟨g, k * 6 + 3, none⟩ = some (.int .u64 ofs) := hcl 3 _ rfl
  have x4 : W1.cell? ⟨g, k * 6 + 4, none⟩ = some (.int .u32 ln) := hcl 4 _ rfl
  have x5 : W1.cell? ⟨g, k * 6 + 5, none⟩ = some (.slice A1 D.length C1) := hcl 5 _ rfl
  have HD : Hid (QD X W1 (⟨fl, kd, ck, ofs, ln⟩, D) (.slice A1 D.length C1)) := hd
  clear hrs hat hp hd hcl
  obtain ⟨q2, hq2⟩ : ∃ q2, q2 = W1.heap.size := ⟨_, rfl⟩
  go_wp2_with fail
  generalize hW2 : World.alloc W1 _ = W2
  rw [← hq2]
  have HW : Hid (PD X W2 b l ∧ Blk W2 q (rqL rq0 (.slice none 0 0)) 34 ∧ Blk W2 q2 (rqL ⟨fl, kd, ck, ofs, ln⟩ (.slice A1 D.length C1)) 34 ∧ Below W1.heap.size W1 W2 ∧ q2 ≠ b ∧ q2 ≠ q ∧ q ≠ b) := by
    subst hW2
    have hlt := HP'.out.2.2.lt
    have hbs := HP'.out.1.lt
    have hb1 : Below W1.heap.size W1 (W1.alloc (.cells #[.int .u16 fl, .int .u16 kd, .int .u64 ck, .int .u64 ofs, .int .u32 ln, .slice A1 D.length C1] 34)) := (Below.refl _ _).alloc (Nat.le_refl _) _
    have hqb := HQ.out
    refine ⟨HP'.out.1.below hb1, HP'.out.2.2.alloc _, ?_, hb1, by omega, by omega, by omega⟩
    rw [hq2]
    exact Blk.new _ _ _
  clear hW2 x0 x1 x2 x3 x4 x5 c hq2
  go_loopw [7, 8] (fun v x wr => ∃ (j : Nat) (A : Option Addr) (C : Nat), v = .slice A (exL l k j).length C ∧ x = .int .i64 j ∧ j ≤ l.length ∧ Gr X W2.heap.size W2 wr A C (exL l k j)) (fun _ x _ => l.length - (intOf x).toNat)
  case atStart => exact ⟨0, none, 0, by simp [exL], rfl, Nat.zero_le _, by simpa [exL] using Gr.start X W2⟩
  case round =>
    obtain ⟨j, A, C, rfl, rfl, hj, hw⟩ := hrel
    have hP := HW.out.1.below hw.bel
    obtain ⟨A2, C2, hc, hrs, hat⟩ := hP.at
    by_cases hlt : j < l.length
    · have hj' : (j : Int) < l.length := by omega
      have hwj : IntKind.i64.wrap ((j : Int) + 1) = (j : Int) + 1 := by rw [IntKind.wrap_i64]; omega
      by_cases hjk : j = k
      · subst hjk
        have H9 : Hid (Gr X W2.heap.size W2 wr A C (exL l j j)) := hw
        clear hw hP hrs hat
        go_wp2
        go_roundw
        case rel => exact ⟨j + 1, A, C, by rw [exL_skip hlt], by simp, by omega, by rw [exL_skip hlt]; exact H9.out⟩
        case measure => simp [intOf]; omega
      · have hjk' : ¬ (j : Int) = (k : Int) := by omega
        obtain ⟨g2, p, A3, C3, rfl, hp, hd, hcl⟩ := hat j hlt
        have y0 : wr.cell? ⟨g2, j * 6, none⟩ = some (.int .u16 p.1.fl) := hcl 0 _ rfl
        have y1 : wr.cell? ⟨g2, j * 6 + 1, none⟩ = some (.int .u16 p.1.kd) := hcl 1 _ rfl
        have y2 : wr.cell? ⟨g2, j * 6 + 2, none⟩ = some (.int .u64 p.1.ck) := hcl 2 _ rfl
        have y3 : wr.cell? ⟨g2, j * 6 + 3, none⟩ = some (.int .u64 p.1.ofs) := hcl 3 _ rfl
        have y4 : wr.cell? ⟨g2, j * 6 + 4, none⟩ = some (.int .u32 p.1.ln) := hcl 4 _ rfl
        have y5 : wr.cell? ⟨g2, j * 6 + 5, none⟩ = some (.slice A3 p.2.length C3) := hcl 5 _ rfl
        obtain ⟨a9, c9, w9, e9, g9, _⟩ := hw.more hw.bel.size (Below.refl _ _) hd (by have := exL_length (k := k) hj; omega)
        have H9 : Hid (Gr X W2.heap.size W2 w9 a9 c9 (exL l k (j + 1)) ∧ (exL l k (j + 1)).length = (exL l k j).length + 1) := by
          show _ ∧ _
          rw [exL_more hp hjk]; exact ⟨g9, by simp⟩
        clear hw hP hrs hat hp hd hcl g9
        go_wp2_with (at_builtin; refine wpList_append_run rfl _ _ 43 43 rfl _ _ rfl rfl _ _ e9 ?_)
        go_roundw
        case rel => exact ⟨j + 1, a9, c9, by rw [H9.out.2], by simp, by omega, H9.out.1⟩
        case measure => simp [intOf]; omega
    · obtain rfl : j = l.length := by omega
      rw [exL_all hk] at hw ⊢
      have hle : (l.eraseIdx k).length ≤ 16 := by simp [List.length_eraseIdx, hk]; omega
      have hbW2 : Below W2.heap.size W2 wr := hw.bel
      have hq : Blk wr q (rqL rq0 (.slice none 0 0)) 34 := HW.out.2.1.below hbW2 HW.out.2.1.lt
      have hq2 : Blk wr q2 (rqL ⟨fl, kd, ck, ofs, ln⟩ (.slice A1 D.length C1)) 34 := HW.out.2.2.1.below hbW2 HW.out.2.2.1.lt
      obtain ⟨_, v0, vs0, hb0, _⟩ := hP
      have cb := hb0.cell 0
      have zb := hb0.frozen 0
      have H7 : Hid (PD X (wr.setCell ⟨b, 0, none⟩ (.slice A (l.eraseIdx k).length C)) b (l.eraseIdx k) ∧ Blk (wr.setCell ⟨b, 0, none⟩ (.slice A (l.eraseIdx k).length C)) q (rqL rq0 (.slice none 0 0)) 34 ∧ Blk (wr.setCell ⟨b, 0, none⟩ (.slice A (l.eraseIdx k).length C)) q2 (rqL ⟨fl, kd, ck, ofs, ln⟩ (.slice A1 D.length C1)) 34 ∧ Out (fun x => x = b) W1 (wr.setCell ⟨b, 0, none⟩ (.slice A (l.eraseIdx k).length C)) ∧ QD X (wr.setCell ⟨b, 0, none⟩ (.slice A (l.eraseIdx k).length C)) (⟨fl, kd, ck, ofs, ln⟩, D) (.slice A1 D.length C1) ∧ (wr.setCell ⟨b, 0, none⟩ (.slice A (l.eraseIdx k).length C)).cell? ⟨b, 0, none⟩ = some (.slice A (l.eraseIdx k).length C) ∧ ∀ g, (Value.slice A (l.eraseIdx k).length C).ownBlock = some g → g ≠ q) := by
        have hb1 := HW.out.2.2.2.1
        have ho : Out (fun x => x = b) wr (wr.setCell ⟨b, 0, none⟩ (.slice A (l.eraseIdx k).length C)) := Out.setCell (O := fun x => x = b) (Out.refl _ _) (.inl rfl) _
        refine ⟨hw.pipe hb0 HW.out.1.lt hle, hq.set_other (a := ⟨b, 0, none⟩) HW.out.2.2.2.2.2.2 _, hq2.set_other (a := ⟨b, 0, none⟩) HW.out.2.2.2.2.1 _, ((below_out _ hb1).trans (below_out (fun x => x = b) hbW2) (fun j e => .inl e)).trans ho (fun j e => .inl e), ?_, (hb0.set 0 _).cell 0, fun g hg => by have := hw.hi g hg; have := HW.out.2.1.lt; omega⟩
        exact ((HD.out.out (below_out Non hb1) (fun _ _ _ _ e => e)).out (below_out Non hbW2) (fun _ _ _ _ e => e)).out ho (fun c cur _ hc => blk_type hb0 hc dpipe_not_u8)
      clear hw hrs hat hq hq2 hb0 hbW2
      go_upto_region 11 with fail
      revert H7
      generalize World.setCell wr _ _ = U7
      intro H7
      have h7 := H7.out
      have d0 : U7.cell? ⟨q2, 0, none⟩ = some (.int .u16 fl) := h7.2.2.1.cell 0
      have d1 : U7.cell? ⟨q2, 1, none⟩ = some (.int .u16 kd) := h7.2.2.1.cell 1
      have d2 : U7.cell? ⟨q2, 2, none⟩ = some (.int .u64 ck) := h7.2.2.1.cell 2
      have d3 : U7.cell? ⟨q2, 3, none⟩ = some (.int .u64 ofs) := h7.2.2.1.cell 3
      have d4 : U7.cell? ⟨q2, 4, none⟩ = some (.int .u32 ln) := h7.2.2.1.cell 4
      have d5 : U7.cell? ⟨q2, 5, none⟩ = some (.slice A1 D.length C1) := h7.2.2.1.cell 5
      have e0 : U7.cell? ⟨q, 0, none⟩ = some (.int .u16 0) := h7.2.1.cell 0
      have e1 : U7.cell? ⟨q, 1, none⟩ = some (.int .u16 0) := h7.2.1.cell 1
      have e2 : U7.cell? ⟨q, 2, none⟩ = some (.int .u64 0) := h7.2.1.cell 2
      have e3 : U7.cell? ⟨q, 3, none⟩ = some (.int .u64 0) := h7.2.1.cell 3
      have e4 : U7.cell? ⟨q, 4, none⟩ = some (.int .u32 0) := h7.2.1.cell 4
      have e5 : U7.cell? ⟨q, 5, none⟩ = some (.slice none 0 0) := h7.2.1.cell 5
      have z0 := h7.2.1.frozen 0
      have z1 := h7.2.1.frozen 1
      have z2 := h7.2.1.frozen 2
      have z3 := h7.2.1.frozen 3
      have z4 := h7.2.1.frozen 4
      have z5 := h7.2.1.frozen 5
      clear h7 cb zb hc
      go_wp2
      obtain ⟨k1, k2, k3, k4, k5, k6, k7⟩ := H7.out
      have r1 : Blk ((((((U7.setCell ⟨q, 0, none⟩ (.int .u16 fl)).setCell ⟨q, 1, none⟩ (.int .u16 kd)).setCell ⟨q, 2, none⟩ (.int .u64 ck)).setCell ⟨q, 3, none⟩ (.int .u64 ofs)).setCell ⟨q, 4, none⟩ (.int .u32 ln)).setCell ⟨q, 5, none⟩ (.slice A1 D.length C1)) q (rqL ⟨fl, kd, ck, ofs, ln⟩ (.slice A1 D.length C1)) 34 := k2.setAll (vs := rqL ⟨fl, kd, ck, ofs, ln⟩ (.slice A1 D.length C1)) (by rfl)
      have r0 : Out (fun x => x = q) U7 ((((((U7.setCell ⟨q, 0, none⟩ (.int .u16 fl)).setCell ⟨q, 1, none⟩ (.int .u16 kd)).setCell ⟨q, 2, none⟩ (.int .u64 ck)).setCell ⟨q, 3, none⟩ (.int .u64 ofs)).setCell ⟨q, 4, none⟩ (.int .u32 ln)).setCell ⟨q, 5, none⟩ (.slice A1 D.length C1)) := out_setCells (g := q) (fun x => x = q) rfl (rqL ⟨fl, kd, ck, ofs, ln⟩ (.slice A1 D.length C1)) 0 U7 (Out.refl _ _)
      have hty : ∀ c cur, U7.heap[c]? = some (.cells cur 5 (0, 0)) → ¬ (c = q) := fun c cur hc e => blk_type k2 hc req_not_u8 e
      refine bodyPost_ret (results_cell_two (p := 4) (u := 5) (ty := 34) rfl _ _ q _ _ _ rfl r1 Try.underlying34 rfl Try.info_request _ rfl) rfl ⟨A1, C1, rfl, k5.out r0 (fun c cur _ hc => hty c cur hc), ?_, ?_⟩
      · exact k1.past r0 k2 (fun A' C' hA g hg => by rw [k6] at hA; cases hA; exact k7 g hg)
      · have hq0 := HQ.out
        exact ((below_out (fun x => x = b) HP'.out.2.1).trans k4 (fun j e => .inl e)).trans r0 (fun j e => .inr (by rw [e]; exact hq0.1))
end Go.Proofs.Ythmhphjblglcoaa
