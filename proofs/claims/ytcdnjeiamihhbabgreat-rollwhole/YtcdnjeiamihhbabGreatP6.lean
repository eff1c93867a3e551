/- P6 -/
import Derived.Test.YtcdnjeiamihhbabGreatP5
set_option linter.unusedVariables false
set_option maxRecDepth 4000
namespace Go.Proofs.YtcdnjeiamihhbabGreat
open Go.RowKit Go.Shelf
attribute [local go_sem] Oper.semAt_some
def Crashed (w : World) (O : Nat → Prop) (a : Option Addr) (c : Nat) (bs : List (List Int)) (dn : Nat) (k t : Int) (e : Ending) (w' : World) : Prop :=
 e = .returned (.agg #[.slice a (crashB bs dn k t).length c, .int .i64 ((crashB bs dn k t).length : Nat)]) ∧ RowAt (fun x => O x ∨ w.heap.size ≤ x) w' (.slice a (crashB bs dn k t).length c) (crashB bs dn k t) ∧ Out (blkOf a) w w'
set_option maxHeartbeats 4000000 in
theorem crashed_of (O : Nat → Prop) (a : Option Addr) (n c dn : Nat) (k t : Int) (bs : List (List Int)) (w : World) (hb : RowAt O w (.slice a n c) bs) (hs : Short bs) (hpos : ∀ D ∈ bs, 0 < D.length) (hd : dn ≤ n) (hk : k < 9223372036854775808) :
  Calls Tryz.prog 46 #[.agg #[.slice a n c, .int .i64 dn], .agg #[.int .i64 k, .int .i64 t]] w (Crashed w O a c bs dn k t) := by
 obtain ⟨q, hq⟩ : ∃ q, q = w.heap.size := ⟨_, rfl⟩
 obtain ⟨vs, rest, harr, hbs, hvn, hnb, hnc⟩ := hb.arr
 have hO : ∀ r, a = some r → O r.block := by
  intro r e
  obtain ⟨_, _, h2, _⟩ := hb
  exact h2 r.block (by rw [e]; rfl)
 have hsf := slice_front Tryz.underlying100 Tryz.one_blocks a n c dn (by omega)
 have hsb := slice_back Tryz.underlying100 Tryz.one_blocks a n c dn hd
 rw [show (if c = dn then a else a.map (·.add dn)) = backA a c dn from rfl] at hsb
 refine (callsIn_wide (n := 5)).1 (callsIn_of_wp_marks Tryz.func46 rfl trivial (wpIn_wide.2 ?_))
 simp only [Tryz.ntmps46, List.size_toArray, List.length_cons, List.length_nil, Nat.reduceAdd, Nat.reduceSub, Array.replicate_succ, Array.replicate_zero, List.push_toArray, List.append_toArray, List.nil_append, List.cons_append]
 have HB : Hid (RowAt O w (.slice a n c) bs ∧ Short bs ∧ (∀ D ∈ bs, 0 < D.length) ∧ dn ≤ n ∧ k < 9223372036854775808 ∧ q = w.heap.size) := ⟨hb, hs, hpos, hd, hk, hq⟩
 have HA : Hid (Arr w a c (vs ++ rest) ∧ BsAt O w vs bs ∧ vs.length = n ∧ n = bs.length ∧ n ≤ c ∧ ∀ r, a = some r → O r.block) := ⟨harr, hbs, hvn, hnb, hnc, hO⟩
 clear hb hs hpos hd hk harr hbs hvn hnb hnc hO
 go_upto_region 2 with fail
 rw [← hq]
 have HW : Hid (Blk ((((w.alloc (.cells #[.slice a n c, .int .i64 dn] 102)).alloc (.cells #[.int .i64 k, .int .i64 t] 114)).alloc (.cells #[.slice none 0 0, .int .i64 0] 102)).alloc (.cells #[.slice a dn c] 100)) q [.slice a n c, .int .i64 dn] 102 ∧ Blk ((((w.alloc (.cells #[.slice a n c, .int .i64 dn] 102)).alloc (.cells #[.int .i64 k, .int .i64 t] 114)).alloc (.cells #[.slice none 0 0, .int .i64 0] 102)).alloc (.cells #[.slice a dn c] 100)) (q + 1) [.int .i64 k, .int .i64 t] 114 ∧ Blk ((((w.alloc (.cells #[.slice a n c, .int .i64 dn] 102)).alloc (.cells #[.int .i64 k, .int .i64 t] 114)).alloc (.cells #[.slice none 0 0, .int .i64 0] 102)).alloc (.cells #[.slice a dn c] 100)) (q + 2) [.slice none 0 0, .int .i64 0] 102 ∧ Blk ((((w.alloc (.cells #[.slice a n c, .int .i64 dn] 102)).alloc (.cells #[.int .i64 k, .int .i64 t] 114)).alloc (.cells #[.slice none 0 0, .int .i64 0] 102)).alloc (.cells #[.slice a dn c] 100)) (q + 3) [.slice a dn c] 100 ∧ Below q w ((((w.alloc (.cells #[.slice a n c, .int .i64 dn] 102)).alloc (.cells #[.int .i64 k, .int .i64 t] 114)).alloc (.cells #[.slice none 0 0, .int .i64 0] 102)).alloc (.cells #[.slice a dn c] 100)) ∧ ((((w.alloc (.cells #[.slice a n c, .int .i64 dn] 102)).alloc (.cells #[.int .i64 k, .int .i64 t] 114)).alloc (.cells #[.slice none 0 0, .int .i64 0] 102)).alloc (.cells #[.slice a dn c] 100)).heap.size = q + 4) :=
  ⟨(((Blk.new' hq.symm rfl).alloc _).alloc _).alloc _, ((Blk.new' (by simp [hq]) rfl).alloc _).alloc _, (Blk.new' (by simp [hq]) rfl).alloc _, Blk.new' (by simp [hq]) rfl, ((((Below.refl q w).alloc (by omega) _).alloc (by simp [hq]) _).alloc (by simp [hq]; omega) _).alloc (by simp [hq]; omega) _, by simp [hq]⟩
 generalize hW : World.alloc _ _ = W1 at HW ⊢
 have c0 : W1.cell? ⟨q, 0, none⟩ = some (.slice a n c) := HW.out.1.cell 0
 have c1 : W1.cell? ⟨q, 1, none⟩ = some (.int .i64 dn) := HW.out.1.cell 1
 have c2 : W1.cell? ⟨q + 1, 0, none⟩ = some (.int .i64 k) := HW.out.2.1.cell 0
 have c3 : W1.cell? ⟨q + 1, 1, none⟩ = some (.int .i64 t) := HW.out.2.1.cell 1
 have hsz : W1.heap.size = q + 4 := HW.out.2.2.2.2.2
 have d0 : ∀ o, (W1.alloc o).cell? ⟨q, 0, none⟩ = some (.slice a n c) := fun o => (HW.out.1.alloc o).cell 0
 have d1 : ∀ o, (W1.alloc o).cell? ⟨q, 1, none⟩ = some (.int .i64 dn) := fun o => (HW.out.1.alloc o).cell 1
 have d2 : ∀ o, (W1.alloc o).cell? ⟨q + 1, 0, none⟩ = some (.int .i64 k) := fun o => (HW.out.2.1.alloc o).cell 0
 have d3 : ∀ o, (W1.alloc o).cell? ⟨q + 1, 1, none⟩ = some (.int .i64 t) := fun o => (HW.out.2.1.alloc o).cell 1
 have g0 : ∀ o o' o'', (((W1.alloc o).alloc o').alloc o'').cell? ⟨q, 0, none⟩ = some (.slice a n c) := fun o o' o'' => (((HW.out.1.alloc o).alloc o').alloc o'').cell 0
 have g1 : ∀ o o' o'', (((W1.alloc o).alloc o').alloc o'').cell? ⟨q, 1, none⟩ = some (.int .i64 dn) := fun o o' o'' => (((HW.out.1.alloc o).alloc o').alloc o'').cell 1
 have g2 : ∀ o o' o'', (((W1.alloc o).alloc o').alloc o'').cell? ⟨q + 1, 0, none⟩ = some (.int .i64 k) := fun o o' o'' => (((HW.out.2.1.alloc o).alloc o').alloc o'').cell 0
 have g3 : ∀ o o' o'', (((W1.alloc o).alloc o').alloc o'').cell? ⟨q + 1, 1, none⟩ = some (.int .i64 t) := fun o o' o'' => (((HW.out.2.1.alloc o).alloc o').alloc o'').cell 1
 clear hW hq
 go_region_held3 (fun w' => w'.cell? ⟨q, 0, none⟩ = some (.slice a n c) ∧ w'.cell? ⟨q, 1, none⟩ = some (.int .i64 dn) ∧ w'.cell? ⟨q + 1, 0, none⟩ = some (.int .i64 k) ∧ w'.cell? ⟨q + 1, 1, none⟩ = some (.int .i64 t)) (first | exact ⟨c0, c1, c2, c3⟩ | exact ⟨d0 _, d1 _, d2 _, d3 _⟩ | exact ⟨g0 _ _ _, g1 _ _ _, g2 _ _ _, g3 _ _ _⟩)
  (first
  | (go_at_call 90; refine (kept_of k t _).mono ?_; rintro e w2 ⟨rfl, rfl⟩)
  | (go_at_call 89; refine (cut_of (backA a c dn) (n - dn) (c - dn) 145 _ _).mono ?_; rintro e w2 ⟨rfl, rfl⟩))
 have HV : Hid (CrSt w (fun x => O x ∨ w.heap.size ≤ x) q a n c dn vs rest bs k t 0 0 ((((W1.alloc (.cells #[.int .i64 k, .int .i64 t] 114)).alloc (.cells #[.slice (backA a c dn) (n - dn) (c - dn)] 100)).alloc (.cells #[.func (.func 145) #[] #[.pointer (some ⟨q + 4, 0, none⟩)]] 107)).drew) ∧ ((((W1.alloc (.cells #[.int .i64 k, .int .i64 t] 114)).alloc (.cells #[.slice (backA a c dn) (n - dn) (c - dn)] 100)).alloc (.cells #[.func (.func 145) #[] #[.pointer (some ⟨q + 4, 0, none⟩)]] 107)).drew).heap.size = q + 7) := by
  obtain ⟨h1, h2, h3, h4, h5, h6⟩ := HW.out
  obtain ⟨a1, a2, a3, a4, a5, a6⟩ := HA.out
  have hbel : Below w.heap.size w ((((W1.alloc (.cells #[.int .i64 k, .int .i64 t] 114)).alloc (.cells #[.slice (backA a c dn) (n - dn) (c - dn)] 100)).alloc (.cells #[.func (.func 145) #[] #[.pointer (some ⟨q + 4, 0, none⟩)]] 107)).drew) := by
   rw [← HB.out.2.2.2.2.2]
   exact (((h5.alloc (by omega) _).alloc (by simp; omega) _).alloc (by simp; omega) _).drew
  have hoN := below_out Non hbel
  refine ⟨⟨below_out _ hbel, ((h1.alloc _).alloc _).alloc _, ((h3.alloc _).alloc _).alloc _, ((h4.alloc _).alloc _).alloc _, ((Blk.new' h6 rfl).alloc _).alloc _, (Blk.new' (by simp [h6]) rfl).alloc _, Blk.new' (by simp [h6]) rfl, ⟨vs.take dn, by simp [a3]; have := HB.out.2.2.2.1; omega, ?_, ?_⟩, ?_⟩, by simp [h6]⟩
  ·rw [← List.append_assoc, show dn + 0 = dn from rfl, List.take_append_drop]
   exact a1.out hoN (fun _ e => e.elim)
  ·have hw := (a2.mono (O' := fun x => O x ∨ w.heap.size ≤ x) (fun c h _ => .inl h)).out hoN (fun _ _ _ _ => id)
   refine ⟨by simp [kRes, a2.1], fun i h D e1 e2 => ?_⟩
   have hi : i < dn := by have := (List.getElem?_eq_some_iff.1 e1).1; simp at this; omega
   rw [List.getElem?_take_of_lt hi] at e1
   rw [List.getElem?_append_left (by simp; have := HB.out.2.2.2.1; omega), List.getElem?_take_of_lt hi] at e2
   exact hw.2 i h D e1 e2
  ·exact (a2.mono (O' := fun x => O x ∨ w.heap.size ≤ x) (fun c h _ => .inl h)).out hoN (fun _ _ _ _ => id)
 generalize hW2 : World.drew _ = W2 at HV ⊢
 have hsz2 : W2.heap.size = q + 7 := HV.out.2
 clear hW2 c0 c1 c2 c3 d0 d1 d2 d3 g0 g1 g2 g3 hsz HW
 simp only [Nat.add_assoc, Nat.reduceAdd]
 go_wp2
 refine wpIn_wide.1 (wpIn_range (n := 5) (gf := 143) (lb := #[.pointer (some ⟨q + 5, 0, none⟩), .pointer (some ⟨q + 6, 0, none⟩)]) rfl (enters_of Tryz.func143 (by kernel_rfl) rfl)
   (fun j W => CrSt w (fun x => O x ∨ w.heap.size ≤ x) q a n c dn vs rest bs k t j j W)
   (fun j x W => CrSt w (fun x => O x ∨ w.heap.size ≤ x) q a n c dn vs rest bs k t j (j + 1) W ∧ ∃ D, (bs.drop dn)[j]? = some D ∧ BkAt (fun x => O x ∨ w.heap.size ≤ x) W x (tornL D (kFit (bs.drop dn) k t j)) ∧ ∃ gx m, x = .slice (some ⟨gx, 0, none⟩) m m)
   (fun W => ∃ j s, CrSt w (fun x => O x ∨ w.heap.size ≤ x) q a n c dn vs rest bs k t j s W ∧ kRes (bs.drop dn) k t j = keptB (bs.drop dn) k t ∧ j ≤ n - dn)
   (fun j W W' h hc => h.calm hc (by have := HB.out.2.2.2.2.2; omega)) (fun j x W W' h hc => ⟨h.1.calm hc (by have := HB.out.2.2.2.2.2; omega), by obtain ⟨D, h1, h2, h3⟩ := h.2; exact ⟨D, h1, hc.bk h2, h3⟩⟩) (fun W W' h hc => by obtain ⟨j, s, h1, h2⟩ := h; exact ⟨j, s, h1.calm hc (by have := HB.out.2.2.2.2.2; omega), h2⟩)
   (fun o o' => HV.out.1.under (((Below.refl _ _).alloc (Nat.le_refl _) _).alloc (by simp) _))
   (fun x => { tmps := #[.agg #[.slice a n c, .int .i64 dn], .agg #[.int .i64 k, .int .i64 t], .pointer (some ⟨q, 0, none⟩), .pointer (some ⟨q + 1, 0, none⟩), .pointer (some ⟨q + 2, 0, none⟩), .pointer (some ⟨q + 3, 0, none⟩), x, .pointer (some ⟨q, 0, none⟩), .slice a n c, .pointer (some ⟨q, 1, none⟩), .int .i64 dn, .slice a dn c, .pointer (some ⟨q, 0, none⟩), .slice a n c, .pointer (some ⟨q, 1, none⟩), .int .i64 dn,
     .slice (backA a c dn) (n - dn) (c - dn), .agg #[.int .i64 k, .int .i64 t], .func (.func 145) #[] #[.pointer (some ⟨q + 4, 0, none⟩)], .func (.func 143) #[] #[.pointer (some ⟨q + 5, 0, none⟩), .pointer (some ⟨q + 6, 0, none⟩)], x, undef, undef, undef, undef, undef, undef, undef, undef, undef, undef, undef, undef, undef], defers := [] }) ?assign ?body ?iter ?done)
 case assign =>
  rintro l k x W K ⟨_, D, _, _, gx, m, rfl⟩ hK
  gi_wp2
  exact hK
 case body =>
  rintro l R j x W hbk ⟨hst, D, hD, hx, gx, m, rfl⟩
  have hj := (List.getElem?_eq_some_iff.1 hD).1
  obtain ⟨r, ha, g0, hrun, gc, gf, hs2, hbk2⟩ := hst.app (by have := HB.out.2.2.2.2.2; omega) hbk HA.out.2.2.1 HA.out.2.2.2.1.symm (by simp at hj; have := HA.out.2.2.2.1; omega) HA.out.2.2.2.2.1 hD hx rfl
  subst ha
  have c0 : W.cell? ⟨q + 3, 0, none⟩ = some (.slice (some ⟨r, 0, none⟩) (dn + j) c) := hst.g.cell 0
  have HS : Hid (CrSt w (fun x => O x ∨ w.heap.size ≤ x) q (some ⟨r, 0, none⟩) n c dn vs rest bs k t (j + 1) (j + 1) ((((W.alloc (.cells #[.slice (some ⟨gx, 0, none⟩) m m] 51)).setCell ⟨r, dn + j, none⟩ (.slice (some ⟨gx, 0, none⟩) m m))).setCell ⟨q + 3, 0, none⟩ (.slice (some ⟨r, 0, none⟩) (dn + (j + 1)) c)) ∧
   Book R W2.heap.size ((((W.alloc (.cells #[.slice (some ⟨gx, 0, none⟩) m m] 51)).setCell ⟨r, dn + j, none⟩ (.slice (some ⟨gx, 0, none⟩) m m))).setCell ⟨q + 3, 0, none⟩ (.slice (some ⟨r, 0, none⟩) (dn + (j + 1)) c))) := ⟨hs2, hbk2⟩
  have HR : Hid ((Builtin.append_ #[100, 100] 100 #[.slice (some ⟨r, 0, none⟩) (dn + j) c, .slice (some ⟨W.heap.size, 0, none⟩) 1 1]).run Tryz.prog (W.alloc (.cells #[.slice (some ⟨gx, 0, none⟩) m m] 51)) = .ok (.slice (some ⟨r, 0, none⟩) (dn + (j + 1)) c) ((W.alloc (.cells #[.slice (some ⟨gx, 0, none⟩) m m] 51)).setCell ⟨r, dn + j, none⟩ (.slice (some ⟨gx, 0, none⟩) m m))) := hrun
  clear hrun hs2 hbk2 hst hx g0 hbk
  generalize hV : World.setCell (World.alloc _ _) _ _ = V at HS HR gc gf
  clear hV
  gi_wp2_with (gi_at_builtin; refine wpListIn_append_run rfl (.tmp 21) (.tmp 23) 100 100 rfl _ _ rfl rfl _ _ HR.out ?_)
  exact ⟨by rw [← hsz2]; exact HS.out.2, HS.out.1⟩
 case iter =>
  intro R W hY hbk h0
  have hus : (bs.drop dn).length = n - dn := by simp [← HA.out.2.2.2.1]
  refine (cut1_of (n := 5 - 1) (J := fun j W => CrSt w (fun x => O x ∨ w.heap.size ≤ x) q a n c dn vs rest bs k t j j W) (JF := fun j W => CrSt w (fun x => O x ∨ w.heap.size ≤ x) q a n c dn vs rest bs k t j (j + 1) W) (gf := 145) (lb := #[.pointer (some ⟨q + 4, 0, none⟩)]) (fit := kFit (bs.drop dn) k t) (a := backA a c dn) (nb := n - dn) (c := c - dn) (bs := bs.drop dn)
    ⟨hus, by have := HB.out.1; obtain ⟨_, _, _, _, h4⟩ := this; have := HA.out.2.2.2.1; omega, fun k W h => ⟨h.b1.cell 0, h.b2.cell 0⟩, ?rd, ?fits, ?le, ?torn⟩ (enters_of Tryz.func145 (by kernel_rfl) rfl) hY W hbk h0).mono ?_
  case rd =>
   intro j W D h hD
   have hj := (List.getElem?_eq_some_iff.1 hD).1
   rw [hus] at hj
   obtain ⟨hs, e1, e2, e3⟩ := h.row
   rcases e2 with ⟨_, hc, _⟩ | ⟨r, ha, hr, hlen, hcm⟩
   ·have := HA.out.2.2.2.2.1; omega
   subst ha
   have hb : backA (some ⟨r, 0, none⟩) c dn = some ⟨r, dn, none⟩ := by
    unfold backA
    rw [if_neg (by have := HA.out.2.2.2.2.1; omega)]
    show some ((⟨r, 0, none⟩ : Addr).add dn) = _
    rw [Addr.add_mid, Nat.zero_add]
   have hv : ∃ v, vs[dn + j]? = some v := ⟨vs[dn + j]'(by rw [HA.out.2.2.1]; omega), by simp⟩
   obtain ⟨v, hv⟩ := hv
   have hD' : bs[dn + j]? = some D := by rw [List.getElem?_drop] at hD; exact hD
   have hbk := h.old.2 (dn + j) v D hv hD'
   obtain ⟨A, L, C, rfl, h2, h3, h4, h5⟩ := hbk.bkin (HB.out.2.1 D (List.mem_of_getElem? hD'))
   refine ⟨r, dn, A, L, C, hb, ?_, h2, h4, h5⟩
   rw [hr.cell, List.getElem?_append_right (by omega), e1, Nat.sub_self, List.getElem?_append_left (by simp [HA.out.2.2.1]; omega), List.getElem?_drop]
   exact hv
  case fits =>
   intro j W D A L C h hD hin hb
   refine (kept1_of (kst k t j).1 (kst k t j).2 (q + 4) A L C W h.l (by have := kst_le k t j; have := HB.out.2.2.2.2.1; omega)).mono ?_
   rintro e w' ⟨rfl, e2, e3, e4⟩
   have hgd : (bs.drop dn).getD j [] = D := by simp only [List.getD, hD]; rfl
   refine ⟨by rw [kFit, hgd, hin.1], h.loss (by have := HB.out.2.2.2.2.2; omega) e3 e2, hb.out e3 (fun x e => by subst e; exact ⟨_, _, _, h.l⟩), hin.other e3 (fun x e i z hc => ?_)⟩
   subst e
   rw [h.l.cell] at hc
   match i, hc with
   | 0, hc => cases hc
   | 1, hc => cases hc
   | i + 2, hc => cases hc
  case le =>
   intro j D hD
   have hgd : (bs.drop dn).getD j [] = D := by simp only [List.getD, hD]; rfl
   rw [kFit, hgd]
   exact keptN_le _ _ _
  case torn =>
   intro j W D x W' h hD hp hb hx hg
   obtain ⟨gx, rfl⟩ := hg
   refine ⟨h.under hb, D, hD, hx.mono (fun c hc _ => .inr (by have := h.out.size; omega)), gx, _, rfl⟩
  rintro e W' ⟨hv, hb, j, hj, hp, he⟩
  refine ⟨hv, hb, j, ?_⟩
  have hl : ∀ D ∈ bs.drop dn, 0 < D.length := fun D h => HB.out.2.2.1 D (List.mem_of_mem_drop h)
  rcases he with ⟨h1, h2⟩ | ⟨h1, h2, h3⟩
  ·exact ⟨j, h2, kRes_eq hl (by rw [hus]; exact hj) hp (.inl (by rw [hus]; exact h1)), hj⟩
  ·exact ⟨j + 1, h3, kRes_eq hl (by rw [hus]; exact hj) hp (.inr ⟨by rw [hus]; exact h1, h2⟩), hj⟩
 case done =>
  rintro W ⟨j, s, hst, he, hj⟩ hK
  obtain ⟨hs, e1, e2, e3⟩ := hst.row
  rw [he, show bs.take dn ++ keptB (bs.drop dn) k t = crashB bs dn k t from rfl] at e3
  have hm : dn + j = (crashB bs dn k t).length := by rw [← e3.1, e1]
  obtain ⟨m, hmm⟩ : ∃ m, m = dn + j := ⟨_, rfl⟩
  have hmn : m ≤ n := by have := HB.out.2.2.2.1; omega
  obtain ⟨W3, hcl, ho3, L', ha3⟩ := clear_arr e2 hmn HA.out.2.2.2.2.1
  rw [List.take_left' (by rw [e1, hmm])] at ha3
  have hsm := slice_back Tryz.underlying100 Tryz.one_blocks a n c m hmn
  rw [show (if c = m then a else a.map (·.add m)) = backA a c m from rfl] at hsm
  rw [← hmm] at hm
  have hg := hst.g
  rw [← hmm] at hg
  have z3 : Blk W3 q _ _ := ho3.blk hst.z (arr_ne hst.z (by decide) e2)
  have r3 : Blk W3 (q + 2) _ _ := ho3.blk hst.r (arr_ne hst.r (by decide) e2)
  have g3 : Blk W3 (q + 3) _ _ := ho3.blk hg (arr_ne hg (by decide) e2)
  have b3 : BsAt (fun x => O x ∨ w.heap.size ≤ x) W3 hs (crashB bs dn k t) := e3.out ho3 (fun y cur _ hc hy => by
   obtain ⟨ad, ha, hb⟩ := hy
   rcases e2 with ⟨h, _⟩ | ⟨r, h, hr, _⟩
   ·rw [ha] at h; cases h
   ·rw [ha] at h; cases h
    subst hb
    have hr' : W.heap[r]? = _ := hr
    rw [hr'] at hc; simp at hc)
  have k3 : W3.heap[W2.heap.size]? = some (.deferred (some [])) := by
   rw [ho3.block _ (Array.getElem?_eq_some_iff.1 hK).1 (fun hy => ?_)]; exact hK
   obtain ⟨ad, ha, hb⟩ := hy
   rcases e2 with ⟨h, _⟩ | ⟨r, h, hr, _⟩
   ·rw [ha] at h; cases h
   ·rw [ha] at h; cases h
    have hr' : W.heap[r]? = _ := hr
    rw [← hb, hr'] at hK; cases hK
  have HO : Hid (Arr W3 a c (hs ++ L') ∧ BsAt (fun x => O x ∨ w.heap.size ≤ x) W3 hs (crashB bs dn k t) ∧ Blk W3 (q + 2) [.slice none 0 0, .int .i64 0] 102 ∧ W3.heap[W2.heap.size]? = some (.deferred (some [])) ∧ Out (blkOf a) w W3 ∧ m = (crashB bs dn k t).length ∧ m ≤ n) := ⟨ha3, b3, r3, k3, hst.out.trans ho3 (fun _ e => .inl e), hm, hmn⟩
  have c0 : W.cell? ⟨q, 0, none⟩ = some (.slice a n c) := hst.z.cell 0
  have c1 : W.cell? ⟨q + 3, 0, none⟩ = some (.slice a m c) := hg.cell 0
  have c2 : W3.cell? ⟨q + 3, 0, none⟩ = some (.slice a m c) := g3.cell 0
  have e0 : W3.cell? ⟨q + 2, 0, none⟩ = some (.slice none 0 0) := r3.cell 0
  have e1' : W3.cell? ⟨q + 2, 1, none⟩ = some (.int .i64 0) := r3.cell 1
  have f0 := r3.frozen 0
  have f1 := r3.frozen 1
  have HK : Hid (j ≤ n - dn) := hj
  clear hst hK he e1 e2 e3 hm hmm hmn ho3 ha3 hg z3 r3 g3 b3 k3 hj
  go_wp2
  obtain ⟨ha3, b3, r3, k3, ho3, hm, hmn⟩ := HO.out
  have r4 := ((r3.set 0 (.slice a m c)).set 1 (.int .i64 m))
  have hK' : ((W3.setCell ⟨q + 2, 0, none⟩ (.slice a m c)).setCell ⟨q + 2, 1, none⟩ (.int .i64 m)).heap[W2.heap.size]? = some (.deferred (some [])) := by
   rw [Below.heap_setCell _ _ _ _ (by show W2.heap.size ≠ q + 2; omega), Below.heap_setCell _ _ _ _ (by show W2.heap.size ≠ q + 2; omega)]; exact k3
  have hcm := calm_shut hK' (.deferred none)
  have rw3 : RowAt (fun x => O x ∨ w.heap.size ≤ x) W3 (.slice a (crashB bs dn k t).length c) (crashB bs dn k t) := ha3.row b3 (by obtain ⟨_, _, _, _, h4⟩ := HB.out.1; have := HA.out.2.2.2.1; omega) (fun r e => .inl (HA.out.2.2.2.2.2 r e))
  have hrow := hcm.row (out_row (r3.set 0 (.slice a m c)) (by decide) (by decide) 1 (.int .i64 m) (out_row r3 (by decide) (by decide) 0 (.slice a m c) rw3))
  have hq : q = w.heap.size := HB.out.2.2.2.2.2
  have hbel : Out (blkOf a) w ((W3.setCell ⟨q + 2, 0, none⟩ (.slice a m c)).setCell ⟨q + 2, 1, none⟩ (.int .i64 m)) := (ho3.setCell (p := ⟨q + 2, 0, none⟩) (.inr (by show w.heap.size ≤ q + 2; omega)) _).setCell (p := ⟨q + 2, 1, none⟩) (.inr (by show w.heap.size ≤ q + 2; omega)) _
  refine ⟨by simp, .inl ⟨_, _, rfl, run_takeDeferred hK', ?_⟩⟩
  refine ⟨_, results_cell_one (p := 4) (ty := 102) rfl _ _ (q + 2) _ _ _ rfl (hcm.blk r4) Tryz.underlying102 rfl Tryz.info_zone, by rw [← hm]; rfl, hrow, hcm.out hbel (by omega)⟩
section
structure Sh where
 z : Int
 zb : Int
 b : Int
 r : Int
def shL (s : Sh) : List Value := [.int .i64 s.z, .int .i64 s.zb, .int .i64 s.b, .int .i64 s.r]
def Powers : List Int := [64, 128, 256, 512, 1024, 2048, 4096]
def RightS (s : Sh) : Prop := 6 ≤ s.z ∧ s.z ≤ 256 ∧ 8 ≤ s.zb ∧ s.zb ≤ 4096 ∧ s.b ∈ Powers ∧ 2 ≤ s.r ∧ s.r ≤ s.z - 4
instance (s : Sh) : Decidable (RightS s) := by unfold RightS; infer_instance
theorem power_bounds {b : Int} (h : b ∈ Powers) : 64 ≤ b ∧ b ≤ 4096 := by
 simp [Powers] at h
 omega
structure Wf (s : Sh) (zs : List Zn) : Prop where
 right : RightS s
 len : (zs.length : Int) = s.z
 zone : ∀ z ∈ zs, (z.1.length : Int) ≤ s.zb ∧ 0 ≤ z.2 ∧ z.2 ≤ z.1.length ∧ ∀ D ∈ z.1, (D.length : Int) = s.b
structure DvV (T : TypeId) (O : Nat → Prop) (W : World) (p : Nat) (s : Sh) (zs : List Zn) (g c : Nat) (vs : List Value) : Prop where
 hp : Blk W p [.int .i64 s.z, .int .i64 s.zb, .int .i64 s.b, .int .i64 s.r, .slice (some ⟨g, 0, none⟩) zs.length c] T
 hg : W.ownsRow 0 102 2 (.slice (some ⟨g, 0, none⟩) zs.length c) zs.length (zcells vs zs)
 op : O p
 og : O g
 vl : vs.length = zs.length
 rows : ∀ (i : Nat) (u : Value) (z : Zn), vs[i]? = some u → zs[i]? = some z → RowAt O W u z.1
 ap : Apart vs
 small : zs.length ≤ 1000
 ty : T ≠ 102 ∧ T ≠ 51 ∧ T ≠ 5
def Dv (T : TypeId) (O : Nat → Prop) (W : World) (p : Nat) (s : Sh) (zs : List Zn) : Prop := ∃ g c vs, DvV T O W p s zs g c vs
section
variable {T : TypeId} {O S : Nat → Prop} {W W' : World} {p : Nat} {s : Sh} {zs : List Zn} {g c : Nat} {vs : List Value}
theorem DvV.out (h : DvV T O W p s zs g c vs) (ho : Out S W W') (hS : ∀ x, O x → ¬ S x) : DvV T O W' p s zs g c vs := by
 refine ⟨ho.blk h.hp (hS p h.op), ho.own h.hg (fun r e => by cases e; exact hS g h.og), h.op, h.og, h.vl, fun i u z h1 h2 => ?_, h.ap, h.small, h.ty⟩
 have := h.rows i u z h1 h2
 exact this.out ho (fun r hr => by obtain ⟨_, _, hb, _⟩ := this; exact hS r (hb r hr)) (fun c _ hc _ => hS c hc)
theorem DvV.mono {O' : Nat → Prop} (h : DvV T O W p s zs g c vs) (hO : ∀ x, O x → x < W.heap.size → O' x) : DvV T O' W p s zs g c vs :=
 ⟨h.hp, h.hg, hO p h.op h.hp.lt, hO g h.og (h.hg.lt g rfl).2, h.vl, fun i u z h1 h2 => (h.rows i u z h1 h2).mono hO, h.ap, h.small, h.ty⟩
theorem DvV.under (h : DvV T O W p s zs g c vs) (hb : Below W.heap.size W W') : DvV T O W' p s zs g c vs := h.out (below_out Non hb) (fun _ _ e => e)
theorem DvV.pcell (h : DvV T O W p s zs g c vs) : W.cell? ⟨p, 0, none⟩ = some (.int .i64 s.z) ∧ W.cell? ⟨p, 1, none⟩ = some (.int .i64 s.zb) ∧ W.cell? ⟨p, 2, none⟩ = some (.int .i64 s.b) ∧ W.cell? ⟨p, 3, none⟩ = some (.int .i64 s.r) ∧ W.cell? ⟨p, 4, none⟩ = some (.slice (some ⟨g, 0, none⟩) zs.length c) :=
 ⟨h.hp.cell 0, h.hp.cell 1, h.hp.cell 2, h.hp.cell 3, h.hp.cell 4⟩
theorem DvV.at (h : DvV T O W p s zs g c vs) {i : Nat} {z : Zn} (hz : zs[i]? = some z) : ∃ a cc, vs[i]? = some (.slice a z.1.length cc) ∧ RowAt O W (.slice a z.1.length cc) z.1 ∧ W.cell? ⟨g, i * 2, none⟩ = some (.slice a z.1.length cc) ∧ W.cell? ⟨g, i * 2 + 1, none⟩ = some (.int .i64 z.2) := by
 rw [Nat.mul_comm i 2]
 have hi := (List.getElem?_eq_some_iff.1 hz).1
 obtain ⟨u, hu⟩ : ∃ u, vs[i]? = some u := ⟨vs[i]'(by rw [h.vl]; exact hi), by simp [h.vl, hi]⟩
 have hr := h.rows i u z hu hz
 obtain ⟨a, cc, rfl⟩ := hr.slice
 obtain ⟨h1, h2⟩ := zcells_get vs zs i _ z hu hz
 have hl := zcells_length vs zs h.vl
 exact ⟨a, cc, hu, hr, by rw [h.hg.cellAt (2 * i) (by omega)]; exact h1, by rw [h.hg.cellAt (2 * i + 1) (by omega)]; exact h2⟩
theorem DvV.free (h : DvV T O W p s zs g c vs) (j : Nat) : W.frozen? ⟨g, j, none⟩ = false := h.hg.frozenAt j
/-- A zone's durable number is written. -/
theorem own_blk {e : TypeId} {sz n cap : Nat} {g : Nat} {xs : List Value} (h : W.ownsRow 0 e sz (.slice (some ⟨g, 0, none⟩) n cap) n xs) : ∃ L, Blk W g L e := by
 obtain ⟨cur, hc⟩ := own_at_block h rfl
 exact ⟨cur.toList, by unfold Blk; rw [hc]⟩
theorem DvV.setD (h : DvV T O W p s zs g c vs) {i : Nat} {z : Zn} (hz : zs[i]? = some z) (d : Int) : DvV T O (W.setCell ⟨g, i * 2 + 1, none⟩ (.int .i64 d)) p s (zs.set i (z.1, d)) g c vs := by
 rw [Nat.mul_comm i 2]
 obtain ⟨L, hL⟩ := own_blk h.hg
 have hl : (zs.set i (z.1, d)).length = zs.length := by simp
 obtain ⟨s1, s2⟩ := h.hg.stored (2 * i + 1) (.int .i64 d)
 rw [zcells_setD vs zs i (z.1, d) h.vl] at s1
 refine ⟨by rw [hl]; exact h.hp.set_other (blk_ne h.hp hL h.ty.1) _, by rw [hl]; exact s1, h.op, h.og, by rw [hl]; exact h.vl, fun j u y h1 h2 => ?_, h.ap, by rw [hl]; exact h.small, h.ty⟩
 refine out_row hL (by decide) (by decide) _ _ ?_
 by_cases e : i = j
 ·subst e
  have hi := (List.getElem?_eq_some_iff.1 hz).1
  rw [List.getElem?_set_self hi] at h2
  cases h2
  exact h.rows i u z h1 hz
 ·rw [List.getElem?_set_ne e] at h2
  exact h.rows j u y h1 h2
/-- A zone's row is another one. -/
theorem DvV.upd {O1 : Nat → Prop} {W1 : World} {i : Nat} {z : Zn} {u u' : Value} {bs' : List (List Int)} (h : DvV T O W p s zs g c vs) (hz : zs[i]? = some z) (hu : vs[i]? = some u) (ho : Out (fun x => u.ownBlock = some x) W W1)
  (hO : ∀ x, O x → O1 x) (hr : RowAt O1 W1 u' bs') (hf : u'.ownBlock = u.ownBlock ∨ ∀ r, u'.ownBlock = some r → W.heap.size ≤ r) :
  W1.cell? ⟨g, i * 2, none⟩ = some u ∧ W1.cell? ⟨g, i * 2 + 1, none⟩ = some (.int .i64 z.2) ∧ (∀ j, W1.frozen? ⟨g, j, none⟩ = false) ∧ DvV T O1 (W1.setCell ⟨g, i * 2, none⟩ u') p s (zs.set i (bs', z.2)) g c (vs.set i u') := by
 rw [Nat.mul_comm i 2]
 have hi := (List.getElem?_eq_some_iff.1 hz).1
 have hru := h.rows i u z hu hz
 obtain ⟨uv, u1, u2, u3, _⟩ := id hru
 obtain ⟨L, hL⟩ := own_blk h.hg
 have hgu : u.ownBlock ≠ some g := blk_not_row hL (by decide) u1
 have hpu : u.ownBlock ≠ some p := blk_not_row h.hp h.ty.2.1 u1
 have hg1 : W1.ownsRow 0 102 2 (.slice (some ⟨g, 0, none⟩) zs.length c) zs.length (zcells vs zs) := ho.own h.hg (fun r e => by cases e; exact hgu)
 have hp1 := ho.blk h.hp hpu
 obtain ⟨L1, hL1⟩ := own_blk hg1
 have hl : (zs.set i (bs', z.2)).length = zs.length := by simp
 obtain ⟨g1, g2⟩ := zcells_get vs zs i _ z hu hz
 have hzl := zcells_length vs zs h.vl
 obtain ⟨s1, s2⟩ := hg1.stored (2 * i) u'
 rw [zcells_setV vs zs i u' h.vl] at s1
 have hsame : zcells (vs.set i u') zs = zcells (vs.set i u') (zs.set i (bs', z.2)) := zcells_same _ _ _ (by
  rw [List.map_set]
  apply List.ext_getElem?
  intro j
  by_cases e : i = j
  ·subst e; rw [List.getElem?_set_self (by simp; exact hi)]; simp [hz]
  ·rw [List.getElem?_set_ne e])
 rw [hsame] at s1
 refine ⟨by rw [hg1.cellAt _ (by omega)]; exact g1, by rw [hg1.cellAt _ (by omega)]; exact g2, fun j => hg1.frozenAt j, ⟨by rw [hl]; exact hp1.set_other (blk_ne hp1 hL1 h.ty.1) _, by rw [hl]; exact s1, hO p h.op, hO g h.og, by simp [h.vl], fun j v y h1 h2 => ?_, ?_, by rw [hl]; exact h.small, h.ty⟩⟩
 ·refine out_row hL1 (by decide) (by decide) _ _ ?_
  by_cases e : i = j
  ·subst e
   rw [List.getElem?_set_self hi] at h2
   rw [List.getElem?_set_self (by rw [h.vl]; exact hi)] at h1
   cases h1; cases h2
   exact hr
  ·rw [List.getElem?_set_ne e] at h1 h2
   have hrj := h.rows j v y h1 h2
   refine (hrj.out ho (fun r e1 e2 => e (h.ap i j u v r hu h1 e2 e1)) (fun x cur _ hc e2 => ?_)).mono (fun x hx _ => hO x hx)
   obtain ⟨cur', hc'⟩ := own_at_block u1 e2
   rw [hc] at hc'; cases hc'
 ·intro j k v y r h1 h2 e1 e2
  have hb : ∀ (j : Nat) (v : Value) (r : Nat), j ≠ i → vs[j]? = some v → v.ownBlock = some r → u'.ownBlock = some r → False := by
   intro j v r hj hv er eu
   rcases hf with hf | hf
   ·rw [hf] at eu
    exact hj (h.ap j i v u r hv hu er eu)
   ·have := hf r eu
    have hlt : j < zs.length := by rw [← h.vl]; exact (List.getElem?_eq_some_iff.1 hv).1
    obtain ⟨_, q1, _⟩ := h.rows j v zs[j] hv (by simp [hlt])
    have := (q1.lt r er).2
    omega
  by_cases ej : i = j
  ·by_cases ek : i = k
   ·omega
   ·subst ej
    rw [List.getElem?_set_self (by rw [h.vl]; exact hi)] at h1
    rw [List.getElem?_set_ne ek] at h2
    cases h1
    exact (hb k y r (by omega) h2 e2 e1).elim
  ·rw [List.getElem?_set_ne ej] at h1
   by_cases ek : i = k
   ·subst ek
    rw [List.getElem?_set_self (by rw [h.vl]; exact hi)] at h2
    cases h2
    exact (hb j v r (by omega) h1 e1 e2).elim
   ·rw [List.getElem?_set_ne ek] at h2
    exact h.ap j k v y r h1 h2 e1 e2
end
end
end Go.Proofs.YtcdnjeiamihhbabGreat
