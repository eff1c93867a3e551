/- The program's pipe in memory; what one call of New, Len, Full, Clear does; a request copied. -/
import Derived.Test.YthmhphjblglcoaaPiRow
namespace Go.Proofs.Ythmhphjblglcoaa
open Go.RowKit
set_option linter.unusedVariables false
set_option maxRecDepth 4000
/-- A pipe in block b: its list, data of its own in X. -/
structure PP (X : Nat → Prop) (w : World) (b : Nat) (l : List Pq) : Prop where
  few : l.length ≤ 16
  blk : ∃ cs vs, Blk w b cs 49 ∧ cs.length = 97 ∧ cs[96]? = some (.int .i64 (l.length : Int)) ∧ QsD X w l vs ∧ ∀ (i : Nat) (p : Pq) (v : Value), l[i]? = some p → vs[i]? = some v → ∀ (j : Nat) (u : Value), (rqL p.1 v)[j]? = some u → cs[i * 6 + j]? = some u
/-- The document's: its row is its own. -/
structure PD (X : Nat → Prop) (w : World) (b : Nat) (l : List Pq) : Prop where
  few : l.length ≤ 16
  blk : ∃ v vs, Blk w b [v] 51 ∧ w.ownsRow 0 34 6 v l.length (rqC l vs) ∧ QsD X w l vs ∧ ∀ g, v.ownBlock = some g → b ≤ g
theorem pipe_not_u8 : 49 ≠ 5 := by decide
theorem dpipe_not_u8 : 51 ≠ 5 := by decide
theorem req_not_u8 : 34 ≠ 5 := by decide
theorem blk_type {w : World} {b : Nat} {cs : List Value} {t : TypeId} (h : Blk w b cs t) {c : Nat} {cur : Array Value} (hc : w.heap[c]? = some (.cells cur 5 (0, 0))) (ht : t ≠ 5) : c ≠ b := by
  rintro rfl
  have h' : w.heap[c]? = some (.cells cs.toArray t (0, 0)) := h
  rw [hc] at h'
  simp only [Option.some.injEq, Obj.cells.injEq] at h'
  exact ht h'.2.1.symm
section
variable {X Y O : Nat → Prop} {w w' : World} {b : Nat} {l : List Pq}
theorem PP.out (h : PP X w b l) (ho : Out O w w') (hb : ¬ O b) (hO : ∀ c cur, X c → w.heap[c]? = some (.cells cur 5 (0, 0)) → ¬ O c) : PP X w' b l := by
  obtain ⟨h1, cs, vs, h2, h3, h4, h5, h6⟩ := h
  exact ⟨h1, cs, vs, ho.blk h2 hb, h3, h4, h5.out ho hO, h6⟩
theorem PP.below (h : PP X w b l) (hb : Below w.heap.size w w') : PP X w' b l := h.out (below_out Non hb) (fun e => e) (fun _ _ _ _ e => e)
theorem PP.wider (h : PP X w b l) (hY : ∀ x, X x → x < w.heap.size → Y x) : PP Y w b l := by
  obtain ⟨h1, cs, vs, h2, h3, h4, h5, h6⟩ := h
  exact ⟨h1, cs, vs, h2, h3, h4, h5.wider hY, h6⟩
theorem PP.lt (h : PP X w b l) : b < w.heap.size := by obtain ⟨h1, cs, vs, h2, _⟩ := h; exact h2.lt
theorem PP.len (h : PP X w b l) : w.cell? ⟨b, 96, none⟩ = some (.int .i64 (l.length : Int)) := by obtain ⟨h1, cs, vs, h2, h3, h4, h5, h6⟩ := h; rw [h2.cell]; exact h4
theorem PP.at (h : PP X w b l) {i : Nat} (hi : i < l.length) : ∃ p A C, l[i]? = some p ∧ QD X w p (.slice A p.2.length C) ∧ (∀ j u, (rqL p.1 (.slice A p.2.length C))[j]? = some u → w.cell? ⟨b, i * 6 + j, none⟩ = some u) := by
  obtain ⟨h1, cs, vs, h2, h3, h4, h5, h6⟩ := h
  obtain ⟨v, hv⟩ : ∃ v, vs[i]? = some v := ⟨vs[i]'(by rw [h5.1]; exact hi), by simp⟩
  have hd := h5.2 i l[i] v (by simp) hv
  obtain ⟨A, C, rfl, _⟩ := hd.form
  refine ⟨l[i], A, C, by simp, hd, fun j u hu => ?_⟩
  rw [h2.cell]
  exact h6 i l[i] _ (by simp) hv j u hu
theorem PD.out (h : PD X w b l) (ho : Out O w w') (hO : ∀ c cur t, w.heap[c]? = some (.cells cur t (0, 0)) → (t = 5 ∧ X c) ∨ t = 34 ∨ t = 51 → ¬ O c) : PD X w' b l := by
  obtain ⟨h1, v, vs, h2, h3, h4⟩ := h
  exact ⟨h1, v, vs, ho.blk h2 (hO b _ _ h2 (.inr (.inr rfl))), ho.own h3 (fun g hg => by obtain ⟨cur, hc⟩ := own_at_block h3 hg; exact hO g cur _ hc (.inr (.inl rfl))), h4.1.out ho (fun c cur hx hc => hO c cur _ hc (.inl ⟨rfl, hx⟩)), h4.2⟩
theorem PD.below (h : PD X w b l) (hb : Below w.heap.size w w') : PD X w' b l := h.out (below_out Non hb) (fun _ _ _ _ _ e => e)
theorem PD.wider (h : PD X w b l) (hY : ∀ x, X x → x < w.heap.size → Y x) : PD Y w b l := by
  obtain ⟨h1, v, vs, h2, h3, h4⟩ := h
  exact ⟨h1, v, vs, h2, h3, h4.1.wider hY, h4.2⟩
theorem PD.lt (h : PD X w b l) : b < w.heap.size := by obtain ⟨h1, v, vs, h2, _⟩ := h; exact h2.lt
end
/-- A pipe in which nothing waits. -/
def zeroP : List Value := (List.replicate 16 (rqL rq0 (.slice none 0 0))).flatten ++ [.int .i64 0]
theorem Try.zero_pipe (w : World) : (zeroValue 49).run Try.prog w = .ok (.agg zeroP.toArray) w := by kernel_rfl
theorem Try.info_pipe : (Try.prog.info? 49).map (·.size) = some zeroP.toArray.size := by kernel_rfl
theorem zeroP_one : zeroP.toArray.all (·.oneCell') = true := by kernel_rfl
set_option maxHeartbeats 2000000 in
theorem pNew_of (X : Nat → Prop) (W : World) : Calls Try.prog 9 #[] W fun e w' => e = .returned (.pointer (some ⟨W.heap.size, 0, none⟩)) ∧ PP X w' W.heap.size [] ∧ Below W.heap.size W w' := by
  have hz := Try.zero_pipe W
  obtain ⟨Z, HZ⟩ : ∃ Z, Hid (Z = zeroP.toArray) := ⟨_, rfl⟩
  rw [← HZ.out] at hz
  go_enter Try.func9, Try.ntmps9
  go_wp2
  go_ret
  refine ⟨rfl, ⟨by simp, zeroP, [], Blk.new' rfl HZ.out, by rfl, by rfl, QsD.nil, fun i p v h => by simp at h⟩, (Below.refl _ _).alloc (Nat.le_refl _) _⟩
set_option maxHeartbeats 2000000 in
theorem dpClear_of {X : Nat → Prop} {W : World} {b : Nat} {l : List Pq} (h : PD X W b l) : Calls Try.prog 12 #[.pointer (some ⟨b, 0, none⟩)] W fun e w' => e = .returned (.tuple #[]) ∧ PD X w' b [] ∧ Out (fun k => k = b) W w' := by
  have HP : Hid (PD X W b l) := h
  obtain ⟨h1, v, vs, h2, h3, h4⟩ := h
  have c : W.cell? ⟨b, 0, none⟩ = some v := by rw [h2.cell]; rfl
  have z := h2.frozen 0
  clear h1 h3 h4 h2
  go_enter Try.func12, Try.ntmps12
  go_wp2
  first | go_end0 | refine bodyPost_ret (results_none rfl _ _ _) rfl ?_
  obtain ⟨h1, v, vs, h2, h3, h4⟩ := HP.out
  exact ⟨rfl, ⟨by simp, _, [], h2.set 0 _, World.ownsRow_nil _ _ _ _, QsD.nil, fun g h => by cases h⟩, Out.setCell (O := fun k => k = b) (Out.refl _ _) (.inl rfl) _⟩
set_option maxHeartbeats 2000000 in
theorem dpNew_of (X : Nat → Prop) (W : World) : Calls Try.prog 10 #[] W fun e w' => e = .returned (.pointer (some ⟨W.heap.size, 0, none⟩)) ∧ PD X w' W.heap.size [] ∧ Below W.heap.size W w' := by
  go_enter Try.func10, Try.ntmps10
  go_wp2
  go_ret
  refine ⟨rfl, ⟨by simp, _, [], Blk.new' rfl rfl, World.ownsRow_nil _ _ _ _, QsD.nil, fun g h => by cases h⟩, (Below.refl _ _).alloc (Nat.le_refl _) _⟩
theorem out_setCells {a : World} (O : Nat → Prop) {g : Nat} (hg : O g) : ∀ (vs : List Value) (o : Nat) (w : World), Out O a w → Out O a (w.setCells g o vs)
  | [], _, _, h => h
  | v :: r, o, w, h => out_setCells O hg r (o + 1) _ (h.setCell (.inl hg) v)
set_option maxHeartbeats 2000000 in
theorem pClear_of {X : Nat → Prop} {W : World} {b : Nat} {l : List Pq} (h : PP X W b l) : Calls Try.prog 11 #[.pointer (some ⟨b, 0, none⟩)] W fun e w' => e = .returned (.tuple #[]) ∧ PP X w' b [] ∧ Out (fun k => k = b) W w' := by
  have hz := Try.zero_pipe W
  obtain ⟨Z, HZ⟩ : ∃ Z, Hid (Z = zeroP.toArray) := ⟨_, rfl⟩
  rw [← HZ.out] at hz
  have HP : Hid (PP X W b l) := h
  clear h
  go_enter Try.func11, Try.ntmps11
  have hT : W.there b 0 Z.size := by
    obtain ⟨h1, cs, vs, h2, h3, _⟩ := HP.out
    exact h2.there 0 _ (by rw [HZ.out, h3]; exact Nat.le_refl _)
  have hU : ∀ U, U = W.setCells b 0 Z.toList → PP X U b [] ∧ Out (fun k => k = b) W U := by
    rintro U rfl
    obtain ⟨h1, cs, vs, h2, h3, _⟩ := HP.out
    have hl : cs.length = Z.toList.length := by rw [h3, HZ.out]; rfl
    refine ⟨⟨by simp, zeroP, [], ?_, by rfl, by rfl, QsD.nil, fun i p v h => by simp at h⟩, ?_⟩
    · have := h2.setAll hl
      rw [HZ.out] at this ⊢
      exact this
    · exact out_setCells (fun k => k = b) rfl _ 0 _ (Out.refl _ _)
  have HU : Hid (∀ U, U = W.setCells b 0 Z.toList → PP X U b [] ∧ Out (fun k => k = b) W U) := hU
  have HS : Hid ((Try.prog.info? 49).map (·.size) = some Z.size ∧ Z.all (·.oneCell') = true) := by
    show _ ∧ _
    rw [HZ.out]; exact ⟨Try.info_pipe, zeroP_one⟩
  clear hU
  go_wp2_with (refine wpList_store_mid rfl 49 (.tmp 4) (.tmp 3) rfl b 0 Z rfl rfl hT HS.out.1 HS.out.2 ?_; generalize hG : World.setCells W b 0 Z.toList = U; have H2 := HU.out U hG.symm; clear hG)
  first | go_end0 | refine bodyPost_ret (results_none rfl _ _ _) rfl ?_
  exact ⟨rfl, H2⟩
theorem pLen_of {X : Nat → Prop} {W : World} {b : Nat} {l : List Pq} (h : PP X W b l) : Calls Try.prog 18 #[.pointer (some ⟨b, 0, none⟩)] W fun e w' => e = .returned (.int .i64 (l.length : Int)) ∧ ∃ n, w' = W.drewN n := by
  have c := h.len
  go_enter Try.func18, Try.ntmps18
  go_wp2
  go_ret
  exact ⟨rfl, 0, rfl⟩
theorem pFull_of {X : Nat → Prop} {W : World} {b : Nat} {l : List Pq} (h : PP X W b l) : Calls Try.prog 20 #[.pointer (some ⟨b, 0, none⟩)] W fun e w' => e = .returned (.bool (decide (l.length = 16))) ∧ w' = W := by
  have c := h.len
  go_enter Try.func20, Try.ntmps20
  go_wp2
  go_ret
  refine ⟨?_, rfl⟩
  by_cases e : l.length = 16
  · simp [e]
  · have : ¬ (l.length : Int) = 16 := by omega
    simp [e, this]
theorem dpLen_of {X : Nat → Prop} {W : World} {b : Nat} {l : List Pq} (h : PD X W b l) : Calls Try.prog 19 #[.pointer (some ⟨b, 0, none⟩)] W fun e w' => e = .returned (.int .i64 (l.length : Int)) ∧ w' = W := by
  obtain ⟨h1, v, vs, h2, h3, h4⟩ := h
  obtain ⟨A, C, rfl⟩ := own_slice h3
  have c : W.cell? ⟨b, 0, none⟩ = some (.slice A l.length C) := by rw [h2.cell]; rfl
  go_enter Try.func19, Try.ntmps19
  go_wp2
  go_ret
  exact ⟨rfl, rfl⟩
theorem dpFull_of {X : Nat → Prop} {W : World} {b : Nat} {l : List Pq} (h : PD X W b l) : Calls Try.prog 21 #[.pointer (some ⟨b, 0, none⟩)] W fun e w' => e = .returned (.bool (decide (l.length = 16))) ∧ w' = W := by
  obtain ⟨h1, v, vs, h2, h3, h4⟩ := h
  obtain ⟨A, C, rfl⟩ := own_slice h3
  have c : W.cell? ⟨b, 0, none⟩ = some (.slice A l.length C) := by rw [h2.cell]; rfl
  go_enter Try.func21, Try.ntmps21
  go_wp2
  go_ret
  refine ⟨?_, rfl⟩
  by_cases e : l.length = 16
  · simp [e]
  · have : ¬ (16 : Int) ≤ (l.length : Int) := by omega
    simp [e, this]
set_option maxHeartbeats 2000000 in
/-- A request whose data are copied. -/
theorem copied_of (p : Pq) (A : Option Addr) (k C : Nat) (W : World) (hD : DIn W A k C p.2) (hk : k ≤ 100) (hf : p.1.Fits) : Calls Try.prog 25 #[.agg (rqL p.1 (.slice A k C)).toArray] W fun e w' => ∃ A' C', e = .returned (.agg (rqL p.1 (.slice A' k C')).toArray) ∧ QD (fun x => W.heap.size ≤ x) w' p (.slice A' k C') ∧ Below W.heap.size W w' := by
  obtain ⟨q, hq⟩ : ∃ q, q = W.heap.size := ⟨_, rfl⟩
  obtain ⟨⟨fl, kd, ck, ofs, ln⟩, D⟩ := p
  have b0 : Blk ((W.alloc (.cells (rqL ⟨fl, kd, ck, ofs, ln⟩ (.slice A k C)).toArray 34)).alloc (.cells (rqL rq0 (.slice none 0 0)).toArray 34)) q (rqL ⟨fl, kd, ck, ofs, ln⟩ (.slice A k C)) 34 := (Blk.new' hq.symm rfl).alloc _
  have b1 : Blk ((W.alloc (.cells (rqL ⟨fl, kd, ck, ofs, ln⟩ (.slice A k C)).toArray 34)).alloc (.cells (rqL rq0 (.slice none 0 0)).toArray 34)) (q + 1) (rqL rq0 (.slice none 0 0)) 34 := Blk.new' (by simp [hq]) rfl
  have bw : Below q W ((W.alloc (.cells (rqL ⟨fl, kd, ck, ofs, ln⟩ (.slice A k C)).toArray 34)).alloc (.cells (rqL rq0 (.slice none 0 0)).toArray 34)) := ((Below.refl _ _).alloc (by omega) _).alloc (by simp; omega) _
  have hD' := (hD.alloc (.cells (rqL ⟨fl, kd, ck, ofs, ln⟩ (.slice A k C)).toArray 34)).alloc (.cells (rqL rq0 (.slice none 0 0)).toArray 34)
  have HF : Hid ((Rq.mk fl kd ck ofs ln).Fits ∧ D.length = k ∧ q = W.heap.size ∧ (∀ z ∈ D, Fits8 z)) := ⟨hf, hD.1.1, hq, hD.1.2.2.1⟩
  clear hf hD
  rw [← hq]
  go_enter Try.func25, Try.ntmps25
  go_upto_region 1 with fail
  rw [← hq]
  simp only [rqL, rq0] at b0 b1 bw hD'
  simp only [rqL]
  generalize hW : World.alloc (World.alloc W _) _ = W2 at b0 b1 bw hD' ⊢
  clear hW hq
  have c5 : W2.cell? ⟨q, 5, none⟩ = some (.slice A k C) := b0.cell 5
  have HB : Hid (Blk W2 q (rqL ⟨fl, kd, ck, ofs, ln⟩ (.slice A k C)) 34 ∧ Blk W2 (q + 1) (rqL rq0 (.slice none 0 0)) 34 ∧ Below q W W2 ∧ DIn W2 A k C D) := ⟨b0, b1, bw, hD'⟩
  clear b0 b1 bw hD'
  go_wp2_with (first
    | (refine wpList_append_bin rfl (.const (.slice none 0 0)) (.tmp 4) rfl W2.heap.size none 0 0 [] rfl (World.ownsRow_nil _ _ _ _) A k C D rfl HB.out.2.2.2.1 HB.out.2.2.2.2.2 (by omega) (Nat.le_refl _) ?_; intro a' c' w3 how hbl; rw [Nat.zero_add] at how; rw [Nat.zero_add]; have x0 : w3.cell? ⟨q, 0, none⟩ = some (.int .u16 fl) := (HB.out.1.below hbl HB.out.1.lt).cell 0; have x1 : w3.cell? ⟨q, 1, none⟩ = some (.int .u16 kd) := (HB.out.1.below hbl HB.out.1.lt).cell 1; have x2 : w3.cell? ⟨q, 2, none⟩ = some (.int .u64 ck) := (HB.out.1.below hbl HB.out.1.lt).cell 2; have x3 : w3.cell? ⟨q, 3, none⟩ = some (.int .u64 ofs) := (HB.out.1.below hbl HB.out.1.lt).cell 3; have x4 : w3.cell? ⟨q, 4, none⟩ = some (.int .u32 ln) := (HB.out.1.below hbl HB.out.1.lt).cell 4; have x5 : w3.cell? ⟨q, 5, none⟩ = some (.slice A k C) := (HB.out.1.below hbl HB.out.1.lt).cell 5; have z5 := (HB.out.1.below hbl HB.out.1.lt).frozen 5; have HT : Hid ((w3.setCell ⟨q, 5, none⟩ (.slice a' k c')).there (q + 1) 0 6) := ((HB.out.2.1.below hbl HB.out.2.1.lt).set_other (a := ⟨q, 5, none⟩) (by simp) _).there 0 6 (by simp [rqL]); have H3 : Hid (w3.ownsRow W2.heap.size 5 1 (.slice a' k c') k (u8s D) ∧ Below W2.heap.size W2 w3) := ⟨how, hbl⟩; clear how hbl)
    | (refine wpList_store_mid rfl 34 (.tmp 2) (.tmp 7) rfl (q + 1) 0 (rqL ⟨fl, kd, ck, ofs, ln⟩ (.slice a' k c')).toArray rfl rfl HT.out (rq_size _ _) (rq_all _ _ _ _) ?_))
  obtain ⟨hb0, hb1, hb2, hb3⟩ := HB.out
  obtain ⟨ho3, hl3⟩ := H3.out
  obtain ⟨hf, hn, hq, h8⟩ := HF.out
  have e1 : Below q W ((w3.setCell ⟨q, 5, none⟩ (.slice a' k c')).setCells (q + 1) 0 (rqL ⟨fl, kd, ck, ofs, ln⟩ (.slice a' k c'))) := below_setCells (by omega) _ 0 _ (((hb2.trans (hl3.mono (by have := hb1.lt; omega))).setCell (p := ⟨q, 5, none⟩) (Nat.le_refl _) _))
  have e2 : Blk ((w3.setCell ⟨q, 5, none⟩ (.slice a' k c')).setCells (q + 1) 0 (rqL ⟨fl, kd, ck, ofs, ln⟩ (.slice a' k c'))) (q + 1) (rqL ⟨fl, kd, ck, ofs, ln⟩ (.slice a' k c')) 34 := ((hb1.below hl3 hb1.lt).set_other (a := ⟨q, 5, none⟩) (by simp) _).setAll (by rfl)
  have e3 := Out.own (out_setCells (a := w3) (fun x => x = q ∨ x = q + 1) (.inr rfl) (rqL ⟨fl, kd, ck, ofs, ln⟩ (.slice a' k c')) 0 _ (Out.setCell (p := ⟨q, 5, none⟩) (Out.refl _ _) (.inl (.inl rfl)) (.slice a' k c'))) ho3 (fun g hg => by have := (ho3.lt g hg).1; have := hb1.lt; rintro (h | h) <;> omega)
  refine bodyPost_ret (v := .agg (rqL ⟨fl, kd, ck, ofs, ln⟩ (.slice a' k c')).toArray) (results_cell_one (p := 2) (ty := 34) rfl _ _ (q + 1) _ _ _ rfl e2 Try.underlying34 rfl Try.info_request) rfl ⟨a', c', rfl, ⟨⟨?_, fun g hg => by have := (ho3.lt g hg).1; have := hb1.lt; omega, h8, by dsimp only; omega⟩, by dsimp only; omega, hf⟩, e1⟩
  dsimp only
  rw [hn]
  exact own_zero e3
set_option maxHeartbeats 2000000 in
theorem lent_of (p : Pq) (A : Option Addr) (k C : Nat) (W : World) (hD : DIn W A k C p.2) (hk : k ≤ 100) (hf : p.1.Fits) : Calls Try.prog 26 #[.agg (rqL p.1 (.slice A k C)).toArray] W fun e w' => ∃ A' C', e = .returned (.agg (rqL p.1 (.slice A' k C')).toArray) ∧ QD (fun x => W.heap.size ≤ x) w' p (.slice A' k C') ∧ Below W.heap.size W w' := by
  obtain ⟨q, hq⟩ : ∃ q, q = W.heap.size := ⟨_, rfl⟩
  obtain ⟨⟨fl, kd, ck, ofs, ln⟩, D⟩ := p
  have b0 : Blk ((W.alloc (.cells (rqL ⟨fl, kd, ck, ofs, ln⟩ (.slice A k C)).toArray 34)).alloc (.cells (rqL rq0 (.slice none 0 0)).toArray 34)) q (rqL ⟨fl, kd, ck, ofs, ln⟩ (.slice A k C)) 34 := (Blk.new' hq.symm rfl).alloc _
  have b1 : Blk ((W.alloc (.cells (rqL ⟨fl, kd, ck, ofs, ln⟩ (.slice A k C)).toArray 34)).alloc (.cells (rqL rq0 (.slice none 0 0)).toArray 34)) (q + 1) (rqL rq0 (.slice none 0 0)) 34 := Blk.new' (by simp [hq]) rfl
  have bw : Below q W ((W.alloc (.cells (rqL ⟨fl, kd, ck, ofs, ln⟩ (.slice A k C)).toArray 34)).alloc (.cells (rqL rq0 (.slice none 0 0)).toArray 34)) := ((Below.refl _ _).alloc (by omega) _).alloc (by simp; omega) _
  have hD' := (hD.alloc (.cells (rqL ⟨fl, kd, ck, ofs, ln⟩ (.slice A k C)).toArray 34)).alloc (.cells (rqL rq0 (.slice none 0 0)).toArray 34)
  have HF : Hid ((Rq.mk fl kd ck ofs ln).Fits ∧ D.length = k ∧ q = W.heap.size ∧ (∀ z ∈ D, Fits8 z)) := ⟨hf, hD.1.1, hq, hD.1.2.2.1⟩
  clear hf hD
  rw [← hq]
  go_enter Try.func26, Try.ntmps26
  go_upto_region 1 with fail
  rw [← hq]
  simp only [rqL, rq0] at b0 b1 bw hD'
  simp only [rqL]
  generalize hW : World.alloc (World.alloc W _) _ = W2 at b0 b1 bw hD' ⊢
  clear hW hq
  have c5 : W2.cell? ⟨q, 5, none⟩ = some (.slice A k C) := b0.cell 5
  have HB : Hid (Blk W2 q (rqL ⟨fl, kd, ck, ofs, ln⟩ (.slice A k C)) 34 ∧ Blk W2 (q + 1) (rqL rq0 (.slice none 0 0)) 34 ∧ Below q W W2 ∧ DIn W2 A k C D) := ⟨b0, b1, bw, hD'⟩
  clear b0 b1 bw hD'
  go_wp2_with (first
    | (refine wpList_append_bin rfl (.tmp 4) (.tmp 6) rfl W2.heap.size none 0 0 [] rfl (World.ownsRow_nil _ _ _ _) A k C D rfl HB.out.2.2.2.1 HB.out.2.2.2.2.2 (by omega) (Nat.le_refl _) ?_; intro a' c' w3 how hbl; rw [Nat.zero_add] at how; rw [Nat.zero_add]; have x0 : w3.cell? ⟨q, 0, none⟩ = some (.int .u16 fl) := (HB.out.1.below hbl HB.out.1.lt).cell 0; have x1 : w3.cell? ⟨q, 1, none⟩ = some (.int .u16 kd) := (HB.out.1.below hbl HB.out.1.lt).cell 1; have x2 : w3.cell? ⟨q, 2, none⟩ = some (.int .u64 ck) := (HB.out.1.below hbl HB.out.1.lt).cell 2; have x3 : w3.cell? ⟨q, 3, none⟩ = some (.int .u64 ofs) := (HB.out.1.below hbl HB.out.1.lt).cell 3; have x4 : w3.cell? ⟨q, 4, none⟩ = some (.int .u32 ln) := (HB.out.1.below hbl HB.out.1.lt).cell 4; have x5 : w3.cell? ⟨q, 5, none⟩ = some (.slice A k C) := (HB.out.1.below hbl HB.out.1.lt).cell 5; have z5 := (HB.out.1.below hbl HB.out.1.lt).frozen 5; have HT : Hid ((w3.setCell ⟨q, 5, none⟩ (.slice a' k c')).there (q + 1) 0 6) := ((HB.out.2.1.below hbl HB.out.2.1.lt).set_other (a := ⟨q, 5, none⟩) (by simp) _).there 0 6 (by simp [rqL]); have H3 : Hid (w3.ownsRow W2.heap.size 5 1 (.slice a' k c') k (u8s D) ∧ Below W2.heap.size W2 w3) := ⟨how, hbl⟩; clear how hbl)
    | (refine wpList_store_mid rfl 34 (.tmp 2) (.tmp 10) rfl (q + 1) 0 (rqL ⟨fl, kd, ck, ofs, ln⟩ (.slice a' k c')).toArray rfl rfl HT.out (rq_size _ _) (rq_all _ _ _ _) ?_))
  obtain ⟨hb0, hb1, hb2, hb3⟩ := HB.out
  obtain ⟨ho3, hl3⟩ := H3.out
  obtain ⟨hf, hn, hq, h8⟩ := HF.out
  have e1 : Below q W ((w3.setCell ⟨q, 5, none⟩ (.slice a' k c')).setCells (q + 1) 0 (rqL ⟨fl, kd, ck, ofs, ln⟩ (.slice a' k c'))) := below_setCells (by omega) _ 0 _ (((hb2.trans (hl3.mono (by have := hb1.lt; omega))).setCell (p := ⟨q, 5, none⟩) (Nat.le_refl _) _))
  have e2 : Blk ((w3.setCell ⟨q, 5, none⟩ (.slice a' k c')).setCells (q + 1) 0 (rqL ⟨fl, kd, ck, ofs, ln⟩ (.slice a' k c'))) (q + 1) (rqL ⟨fl, kd, ck, ofs, ln⟩ (.slice a' k c')) 34 := ((hb1.below hl3 hb1.lt).set_other (a := ⟨q, 5, none⟩) (by simp) _).setAll (by rfl)
  have e3 := Out.own (out_setCells (a := w3) (fun x => x = q ∨ x = q + 1) (.inr rfl) (rqL ⟨fl, kd, ck, ofs, ln⟩ (.slice a' k c')) 0 _ (Out.setCell (p := ⟨q, 5, none⟩) (Out.refl _ _) (.inl (.inl rfl)) (.slice a' k c'))) ho3 (fun g hg => by have := (ho3.lt g hg).1; have := hb1.lt; rintro (h | h) <;> omega)
  refine bodyPost_ret (v := .agg (rqL ⟨fl, kd, ck, ofs, ln⟩ (.slice a' k c')).toArray) (results_cell_one (p := 2) (ty := 34) rfl _ _ (q + 1) _ _ _ rfl e2 Try.underlying34 rfl Try.info_request) rfl ⟨a', c', rfl, ⟨⟨?_, fun g hg => by have := (ho3.lt g hg).1; have := hb1.lt; omega, h8, by dsimp only; omega⟩, by dsimp only; omega, hf⟩, e1⟩
  dsimp only
  rw [hn]
  exact own_zero e3
end Go.Proofs.Ythmhphjblglcoaa
