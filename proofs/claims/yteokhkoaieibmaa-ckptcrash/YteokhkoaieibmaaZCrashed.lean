/- What one call of crashed does: the walk. -/
import Derived.Test.YteokhkoaieibmaaZCrash
namespace Go.Proofs.Yteokhkoaieibmaa
open Go.RowKit Go.Shelf
set_option linter.unusedVariables false
set_option maxRecDepth 4000
attribute [local go_sem] Oper.semAt_some

def Crashed (w : World) (O : Nat → Prop) (a : Option Addr) (c : Nat) (bs : List (List Int)) (dn : Nat) (k t : Int) (e : Ending) (w' : World) : Prop :=
  e = .returned (.agg #[.slice a (crashB bs dn k t).length c, .int .i64 ((crashB bs dn k t).length : Nat)]) ∧ RowAt (fun x => O x ∨ w.heap.size ≤ x) w' (.slice a (crashB bs dn k t).length c) (crashB bs dn k t) ∧ Out (blkOf a) w w'

set_option maxHeartbeats 4000000 in
theorem crashed_of (O : Nat → Prop) (a : Option Addr) (n c dn : Nat) (k t : Int) (bs : List (List Int)) (w : World) (hb : RowAt O w (.slice a n c) bs) (hs : Short bs) (hpos : ∀ D ∈ bs, 0 < D.length) (hd : dn ≤ n) (hk : k < 9223372036854775808) :
    Calls Try.prog 61 #[.agg #[.slice a n c, .int .i64 dn], .agg #[.int .i64 k, .int .i64 t]] w (Crashed w O a c bs dn k t) := by
  obtain ⟨q, hq⟩ : ∃ q, q = w.heap.size := ⟨_, rfl⟩
  obtain ⟨vs, rest, harr, hbs, hvn, hnb, hnc⟩ := hb.arr
  have hO : ∀ r, a = some r → O r.block := by
    intro r e
    obtain ⟨_, _, h2, _⟩ := hb
    exact h2 r.block (by rw [e]; rfl)
  have hsf := slice_front Try.underlying28 Try.one_blocks a n c dn (by omega)
  have hsb := slice_back Try.underlying28 Try.one_blocks a n c dn hd
  rw [show (if c = dn then a else a.map (·.add dn)) = backA a c dn from rfl] at hsb
  refine (callsIn_wide (n := 5)).1 (callsIn_of_wp_marks Try.func61 rfl trivial (wpIn_wide.2 ?_))
  simp only [Try.ntmps61, List.size_toArray, List.length_cons, List.length_nil, Nat.reduceAdd, Nat.reduceSub, Array.replicate_succ, Array.replicate_zero, List.push_toArray, List.append_toArray, List.nil_append, List.cons_append]
  have HB : Hid (RowAt O w (.slice a n c) bs ∧ Short bs ∧ (∀ D ∈ bs, 0 < D.length) ∧ dn ≤ n ∧ k < 9223372036854775808 ∧ q = w.heap.size) := ⟨hb, hs, hpos, hd, hk, hq⟩
  have HA : Hid (Arr w a c (vs ++ rest) ∧ BsAt O w vs bs ∧ vs.length = n ∧ n = bs.length ∧ n ≤ c ∧ ∀ r, a = some r → O r.block) := ⟨harr, hbs, hvn, hnb, hnc, hO⟩
  clear hb hs hpos hd hk harr hbs hvn hnb hnc hO
  go_upto_region 2 with fail
  rw [← hq]
  have HW : Hid (Blk ((((w.alloc (.cells #[.slice a n c, .int .i64 dn] 76)).alloc (.cells #[.int .i64 k, .int .i64 t] 112)).alloc (.cells #[.slice none 0 0, .int .i64 0] 76)).alloc (.cells #[.slice a dn c] 28)) q [.slice a n c, .int .i64 dn] 76 ∧ Blk ((((w.alloc (.cells #[.slice a n c, .int .i64 dn] 76)).alloc (.cells #[.int .i64 k, .int .i64 t] 112)).alloc (.cells #[.slice none 0 0, .int .i64 0] 76)).alloc (.cells #[.slice a dn c] 28)) (q + 1) [.int .i64 k, .int .i64 t] 112 ∧ Blk ((((w.alloc (.cells #[.slice a n c, .int .i64 dn] 76)).alloc (.cells #[.int .i64 k, .int .i64 t] 112)).alloc (.cells #[.slice none 0 0, .int .i64 0] 76)).alloc (.cells #[.slice a dn c] 28)) (q + 2) [.slice none 0 0, .int .i64 0] 76 ∧ Blk ((((w.alloc (.cells #[.slice a n c, .int .i64 dn] 76)).alloc (.cells #[.int .i64 k, .int .i64 t] 112)).alloc (.cells #[.slice none 0 0, .int .i64 0] 76)).alloc (.cells #[.slice a dn c] 28)) (q + 3) [.slice a dn c] 28 ∧ Below q w ((((w.alloc (.cells #[.slice a n c, .int .i64 dn] 76)).alloc (.cells #[.int .i64 k, .int .i64 t] 112)).alloc (.cells #[.slice none 0 0, .int .i64 0] 76)).alloc (.cells #[.slice a dn c] 28)) ∧ ((((w.alloc (.cells #[.slice a n c, .int .i64 dn] 76)).alloc (.cells #[.int .i64 k, .int .i64 t] 112)).alloc (.cells #[.slice none 0 0, .int .i64 0] 76)).alloc (.cells #[.slice a dn c] 28)).heap.size = q + 4) :=
    ⟨(((Blk.new' hq.symm rfl).alloc _).alloc _).alloc _, ((Blk.new' (by simp [hq]) rfl).alloc _).alloc _, (Blk.new' (by simp [hq]) rfl).alloc _, Blk.new' (by simp [hq]) rfl, ((((Below.refl q w).alloc (by omega) _).alloc (by simp [hq]) _).alloc (by simp [hq]; omega) _).alloc (by simp [hq]; omega) _, by simp [hq]⟩
  generalize hW : World.alloc _ _ = W1 at HW ⊢
  have c0 : W1.cell? ⟨q, 0, none⟩ = some (.slice a n c) := HW.out.1.cell 0
  have c1 : W1.cell? ⟨q, 1, none⟩ = some (.int .i64 dn) := HW.out.1.cell 1
  have c2 : W1.cell? ⟨q + 1, 0, none⟩ = some (.int .i64 k) := HW.out.2.1.cell 0
  have c3 : W1.cell? ⟨q + 1, 1, none⟩ = some (.int .i64 t) := HW.out.2.1.cell 1
  have hsz : W1.heap.size = q + 4 := HW.out.2.2.2.2.2
  have d0 : ∀ o, (W1.alloc o).cell? ⟨q, 0, none⟩ = some (.slice a n c) := fun o => (HW.out.1.alloc o).cell 0
  have d1 : ∀ o, (W1.alloc o).cell? ⟨q, 1, none⟩ = some (.int .i64 dn) := fun o => (HW.out.1.alloc o).cell 1
  have d2 : ∀ o, (W1.alloc o).cell? ⟨q + 1, 0, none⟩ = some (.int .i64 k) := fun o => (HW.out.2.1.alloc o).cell 0
  have d3 : ∀ o, (W1.alloc o).cell? ⟨q + 1, 1, none⟩ = some (.int .i64 t) := fun o => (HW.out.2.1.alloc o).cell 1
  have g0 : ∀ o o' o'', (((W1.alloc o).alloc o').alloc o'').cell? ⟨q, 0, none⟩ = some (.slice a n c) := fun o o' o'' => (((HW.out.1.alloc o).alloc o').alloc o'').cell 0
  have g1 : ∀ o o' o'', (((W1.alloc o).alloc o').alloc o'').cell? ⟨q, 1, none⟩ = some (.int .i64 dn) := fun o o' o'' => (((HW.out.1.alloc o).alloc o').alloc o'').cell 1
  have g2 : ∀ o o' o'', (((W1.alloc o).alloc o').alloc o'').cell? ⟨q + 1, 0, none⟩ = some (.int .i64 k) := fun o o' o'' => (((HW.out.2.1.alloc o).alloc o').alloc o'').cell 0
  have g3 : ∀ o o' o'', (((W1.alloc o).alloc o').alloc o'').cell? ⟨q + 1, 1, none⟩ = some (.int .i64 t) := fun o o' o'' => (((HW.out.2.1.alloc o).alloc o').alloc o'').cell 1
  clear hW hq
  go_region_held3 (fun w' => w'.cell? ⟨q, 0, none⟩ = some (.slice a n c) ∧ w'.cell? ⟨q, 1, none⟩ = some (.int .i64 dn) ∧ w'.cell? ⟨q + 1, 0, none⟩ = some (.int .i64 k) ∧ w'.cell? ⟨q + 1, 1, none⟩ = some (.int .i64 t)) (first | exact ⟨c0, c1, c2, c3⟩ | exact ⟨d0 _, d1 _, d2 _, d3 _⟩ | exact ⟨g0 _ _ _, g1 _ _ _, g2 _ _ _, g3 _ _ _⟩)
    (first
    | (go_at_call 79; refine (kept_of k t _).mono ?_; rintro e w2 ⟨rfl, rfl⟩)
    | (go_at_call 77; refine (cut_of (backA a c dn) (n - dn) (c - dn) 88 _ _).mono ?_; rintro e w2 ⟨rfl, rfl⟩))
  have HV : Hid (CrSt w (fun x => O x ∨ w.heap.size ≤ x) q a n c dn vs rest bs k t 0 0 ((((W1.alloc (.cells #[.int .i64 k, .int .i64 t] 112)).alloc (.cells #[.slice (backA a c dn) (n - dn) (c - dn)] 28)).alloc (.cells #[.func (.func 88) #[] #[.pointer (some ⟨q + 4, 0, none⟩)]] 134)).drew) ∧ ((((W1.alloc (.cells #[.int .i64 k, .int .i64 t] 112)).alloc (.cells #[.slice (backA a c dn) (n - dn) (c - dn)] 28)).alloc (.cells #[.func (.func 88) #[] #[.pointer (some ⟨q + 4, 0, none⟩)]] 134)).drew).heap.size = q + 7) := by
    obtain ⟨h1, h2, h3, h4, h5, h6⟩ := HW.out
    obtain ⟨a1, a2, a3, a4, a5, a6⟩ := HA.out
    have hbel : Below w.heap.size w ((((W1.alloc (.cells #[.int .i64 k, .int .i64 t] 112)).alloc (.cells #[.slice (backA a c dn) (n - dn) (c - dn)] 28)).alloc (.cells #[.func (.func 88) #[] #[.pointer (some ⟨q + 4, 0, none⟩)]] 134)).drew) := by
      rw [← HB.out.2.2.2.2.2]
      exact (((h5.alloc (by omega) _).alloc (by simp; omega) _).alloc (by simp; omega) _).drew
    have hoN := below_out Non hbel
    refine ⟨⟨below_out _ hbel, ((h1.alloc _).alloc _).alloc _, ((h3.alloc _).alloc _).alloc _, ((h4.alloc _).alloc _).alloc _, ((Blk.new' h6 rfl).alloc _).alloc _, (Blk.new' (by simp [h6]) rfl).alloc _, Blk.new' (by simp [h6]) rfl, ⟨vs.take dn, by simp [a3]; have := HB.out.2.2.2.1; omega, ?_, ?_⟩, ?_⟩, by simp [h6]⟩
    · rw [← List.append_assoc, show dn + 0 = dn from rfl, List.take_append_drop]
      exact a1.out hoN (fun _ e => e.elim)
    · have hw := (a2.mono (O' := fun x => O x ∨ w.heap.size ≤ x) (fun c h _ => .inl h)).out hoN (fun _ _ _ _ => id)
      refine ⟨by simp [kRes, a2.1], fun i h D e1 e2 => ?_⟩
      have hi : i < dn := by have := (List.getElem?_eq_some_iff.1 e1).1; simp at this; omega
      rw [List.getElem?_take_of_lt hi] at e1
      rw [List.getElem?_append_left (by simp; have := HB.out.2.2.2.1; omega), List.getElem?_take_of_lt hi] at e2
      exact hw.2 i h D e1 e2
    · exact (a2.mono (O' := fun x => O x ∨ w.heap.size ≤ x) (fun c h _ => .inl h)).out hoN (fun _ _ _ _ => id)
  generalize hW2 : World.drew _ = W2 at HV ⊢
  have hsz2 : W2.heap.size = q + 7 := HV.out.2
  clear hW2 c0 c1 c2 c3 d0 d1 d2 d3 g0 g1 g2 g3 hsz HW
  simp only [Nat.add_assoc, Nat.reduceAdd]
  go_wp2
  refine wpIn_wide.1 (wpIn_range (n := 5) (gf := 85) (lb := #[.pointer (some ⟨q + 5, 0, none⟩), .pointer (some ⟨q + 6, 0, none⟩)]) rfl (enters_of Try.func85 (by kernel_rfl) rfl)
      (fun j W => CrSt w (fun x => O x ∨ w.heap.size ≤ x) q a n c dn vs rest bs k t j j W)
      (fun j x W => CrSt w (fun x => O x ∨ w.heap.size ≤ x) q a n c dn vs rest bs k t j (j + 1) W ∧ ∃ D, (bs.drop dn)[j]? = some D ∧ BkAt (fun x => O x ∨ w.heap.size ≤ x) W x (tornL D (kFit (bs.drop dn) k t j)) ∧ ∃ gx m, x = .slice (some ⟨gx, 0, none⟩) m m)
      (fun W => ∃ j s, CrSt w (fun x => O x ∨ w.heap.size ≤ x) q a n c dn vs rest bs k t j s W ∧ kRes (bs.drop dn) k t j = keptB (bs.drop dn) k t ∧ j ≤ n - dn)
      (fun j W W' h hc => h.calm hc (by have := HB.out.2.2.2.2.2; omega)) (fun j x W W' h hc => ⟨h.1.calm hc (by have := HB.out.2.2.2.2.2; omega), by obtain ⟨D, h1, h2, h3⟩ := h.2; exact ⟨D, h1, hc.bk h2, h3⟩⟩) (fun W W' h hc => by obtain ⟨j, s, h1, h2⟩ := h; exact ⟨j, s, h1.calm hc (by have := HB.out.2.2.2.2.2; omega), h2⟩)
      (fun o o' => HV.out.1.under (((Below.refl _ _).alloc (Nat.le_refl _) _).alloc (by simp) _))
      (fun x => { tmps := #[.agg #[.slice a n c, .int .i64 dn], .agg #[.int .i64 k, .int .i64 t], .pointer (some ⟨q, 0, none⟩), .pointer (some ⟨q + 1, 0, none⟩), .pointer (some ⟨q + 2, 0, none⟩), .pointer (some ⟨q + 3, 0, none⟩), x, .pointer (some ⟨q, 0, none⟩), .slice a n c, .pointer (some ⟨q, 1, none⟩), .int .i64 dn, .slice a dn c, .pointer (some ⟨q, 0, none⟩), .slice a n c, .pointer (some ⟨q, 1, none⟩), .int .i64 dn,
          .slice (backA a c dn) (n - dn) (c - dn), .agg #[.int .i64 k, .int .i64 t], .func (.func 88) #[] #[.pointer (some ⟨q + 4, 0, none⟩)], .func (.func 85) #[] #[.pointer (some ⟨q + 5, 0, none⟩), .pointer (some ⟨q + 6, 0, none⟩)], x, undef, undef, undef, undef, undef, undef, undef, undef, undef, undef, undef, undef, undef], defers := [] }) ?assign ?body ?iter ?done)
  case assign =>
    rintro l k x W K ⟨_, D, _, _, gx, m, rfl⟩ hK
    gi_wp2
    exact hK
  case body =>
    rintro l R j x W hbk ⟨hst, D, hD, hx, gx, m, rfl⟩
    have hj := (List.getElem?_eq_some_iff.1 hD).1
    obtain ⟨r, ha, g0, hrun, gc, gf, hs2, hbk2⟩ := hst.app (by have := HB.out.2.2.2.2.2; omega) hbk HA.out.2.2.1 HA.out.2.2.2.1.symm (by simp at hj; have := HA.out.2.2.2.1; omega) HA.out.2.2.2.2.1 hD hx rfl
    subst ha
    have c0 : W.cell? ⟨q + 3, 0, none⟩ = some (.slice (some ⟨r, 0, none⟩) (dn + j) c) := hst.g.cell 0
    have HS : Hid (CrSt w (fun x => O x ∨ w.heap.size ≤ x) q (some ⟨r, 0, none⟩) n c dn vs rest bs k t (j + 1) (j + 1) ((((W.alloc (.cells #[.slice (some ⟨gx, 0, none⟩) m m] 39)).setCell ⟨r, dn + j, none⟩ (.slice (some ⟨gx, 0, none⟩) m m))).setCell ⟨q + 3, 0, none⟩ (.slice (some ⟨r, 0, none⟩) (dn + (j + 1)) c)) ∧
      Book R W2.heap.size ((((W.alloc (.cells #[.slice (some ⟨gx, 0, none⟩) m m] 39)).setCell ⟨r, dn + j, none⟩ (.slice (some ⟨gx, 0, none⟩) m m))).setCell ⟨q + 3, 0, none⟩ (.slice (some ⟨r, 0, none⟩) (dn + (j + 1)) c))) := ⟨hs2, hbk2⟩
    have HR : Hid ((Builtin.append_ #[28, 28] 28 #[.slice (some ⟨r, 0, none⟩) (dn + j) c, .slice (some ⟨W.heap.size, 0, none⟩) 1 1]).run Try.prog (W.alloc (.cells #[.slice (some ⟨gx, 0, none⟩) m m] 39)) = .ok (.slice (some ⟨r, 0, none⟩) (dn + (j + 1)) c) ((W.alloc (.cells #[.slice (some ⟨gx, 0, none⟩) m m] 39)).setCell ⟨r, dn + j, none⟩ (.slice (some ⟨gx, 0, none⟩) m m))) := hrun
    clear hrun hs2 hbk2 hst hx g0 hbk
    generalize hV : World.setCell (World.alloc _ _) _ _ = V at HS HR gc gf
    clear hV
    gi_wp2_with (gi_at_builtin; refine wpListIn_append_run rfl (.tmp 21) (.tmp 23) 28 28 rfl _ _ rfl rfl _ _ HR.out ?_)
    exact ⟨by rw [← hsz2]; exact HS.out.2, HS.out.1⟩
  case iter =>
    intro R W hY hbk h0
    have hus : (bs.drop dn).length = n - dn := by simp [← HA.out.2.2.2.1]
    refine (cut1_of (n := 5 - 1) (J := fun j W => CrSt w (fun x => O x ∨ w.heap.size ≤ x) q a n c dn vs rest bs k t j j W) (JF := fun j W => CrSt w (fun x => O x ∨ w.heap.size ≤ x) q a n c dn vs rest bs k t j (j + 1) W) (gf := 88) (lb := #[.pointer (some ⟨q + 4, 0, none⟩)]) (fit := kFit (bs.drop dn) k t) (a := backA a c dn) (nb := n - dn) (c := c - dn) (bs := bs.drop dn)
        ⟨hus, by have := HB.out.1; obtain ⟨_, _, _, _, h4⟩ := this; have := HA.out.2.2.2.1; omega, fun k W h => ⟨h.b1.cell 0, h.b2.cell 0⟩, ?rd, ?fits, ?le, ?torn⟩ (enters_of Try.func88 (by kernel_rfl) rfl) hY W hbk h0).mono ?_
    case rd =>
      intro j W D h hD
      have hj := (List.getElem?_eq_some_iff.1 hD).1
      rw [hus] at hj
      obtain ⟨hs, e1, e2, e3⟩ := h.row
      rcases e2 with ⟨_, hc, _⟩ | ⟨r, ha, hr, hlen, hcm⟩
      · have := HA.out.2.2.2.2.1; omega
      subst ha
      have hb : backA (some ⟨r, 0, none⟩) c dn = some ⟨r, dn, none⟩ := by
        unfold backA
        rw [if_neg (by have := HA.out.2.2.2.2.1; omega)]
        show some ((⟨r, 0, none⟩ : Addr).add dn) = _
        rw [Addr.add_mid, Nat.zero_add]
      have hv : ∃ v, vs[dn + j]? = some v := ⟨vs[dn + j]'(by rw [HA.out.2.2.1]; omega), by simp⟩
      obtain ⟨v, hv⟩ := hv
      have hD' : bs[dn + j]? = some D := by rw [List.getElem?_drop] at hD; exact hD
      have hbk := h.old.2 (dn + j) v D hv hD'
      obtain ⟨A, L, C, rfl, h2, h3, h4, h5⟩ := hbk.bkin (HB.out.2.1 D (List.mem_of_getElem? hD'))
      refine ⟨r, dn, A, L, C, hb, ?_, h2, h4, h5⟩
      rw [hr.cell, List.getElem?_append_right (by omega), e1, Nat.sub_self, List.getElem?_append_left (by simp [HA.out.2.2.1]; omega), List.getElem?_drop]
      exact hv
    case fits =>
      intro j W D A L C h hD hin hb
      refine (kept1_of (kst k t j).1 (kst k t j).2 (q + 4) A L C W h.l (by have := kst_le k t j; have := HB.out.2.2.2.2.1; omega)).mono ?_
      rintro e w' ⟨rfl, e2, e3, e4⟩
      have hgd : (bs.drop dn).getD j [] = D := by simp only [List.getD, hD]; rfl
      refine ⟨by rw [kFit, hgd, hin.1], h.loss (by have := HB.out.2.2.2.2.2; omega) e3 e2, hb.out e3 (fun x e => by subst e; exact ⟨_, _, _, h.l⟩), hin.other e3 (fun x e i z hc => ?_)⟩
      subst e
      rw [h.l.cell] at hc
      match i, hc with
      | 0, hc => cases hc
      | 1, hc => cases hc
      | i + 2, hc => cases hc
    case le =>
      intro j D hD
      have hgd : (bs.drop dn).getD j [] = D := by simp only [List.getD, hD]; rfl
      rw [kFit, hgd]
      exact keptN_le _ _ _
    case torn =>
      intro j W D x W' h hD hp hb hx hg
      obtain ⟨gx, rfl⟩ := hg
      refine ⟨h.under hb, D, hD, hx.mono (fun c hc _ => .inr (by have := h.out.size; omega)), gx, _, rfl⟩
    rintro e W' ⟨hv, hb, j, hj, hp, he⟩
    refine ⟨hv, hb, j, ?_⟩
    have hl : ∀ D ∈ bs.drop dn, 0 < D.length := fun D h => HB.out.2.2.1 D (List.mem_of_mem_drop h)
    rcases he with ⟨h1, h2⟩ | ⟨h1, h2, h3⟩
    · exact ⟨j, h2, kRes_eq hl (by rw [hus]; exact hj) hp (.inl (by rw [hus]; exact h1)), hj⟩
    · exact ⟨j + 1, h3, kRes_eq hl (by rw [hus]; exact hj) hp (.inr ⟨by rw [hus]; exact h1, h2⟩), hj⟩
  case done =>
    rintro W ⟨j, s, hst, he, hj⟩ hK
    obtain ⟨hs, e1, e2, e3⟩ := hst.row
    rw [he, show bs.take dn ++ keptB (bs.drop dn) k t = crashB bs dn k t from rfl] at e3
    have hm : dn + j = (crashB bs dn k t).length := by rw [← e3.1, e1]
    obtain ⟨m, hmm⟩ : ∃ m, m = dn + j := ⟨_, rfl⟩
    have hmn : m ≤ n := by have := HB.out.2.2.2.1; omega
    obtain ⟨W3, hcl, ho3, L', ha3⟩ := clear_arr e2 hmn HA.out.2.2.2.2.1
    rw [List.take_left' (by rw [e1, hmm])] at ha3
    have hsm := slice_back Try.underlying28 Try.one_blocks a n c m hmn
    rw [show (if c = m then a else a.map (·.add m)) = backA a c m from rfl] at hsm
    rw [← hmm] at hm
    have hg := hst.g
    rw [← hmm] at hg
    have z3 : Blk W3 q _ _ := ho3.blk hst.z (arr_ne hst.z (by decide) e2)
    have r3 : Blk W3 (q + 2) _ _ := ho3.blk hst.r (arr_ne hst.r (by decide) e2)
    have g3 : Blk W3 (q + 3) _ _ := ho3.blk hg (arr_ne hg (by decide) e2)
    have b3 : BsAt (fun x => O x ∨ w.heap.size ≤ x) W3 hs (crashB bs dn k t) := e3.out ho3 (fun y cur _ hc hy => by
      obtain ⟨ad, ha, hb⟩ := hy
      rcases e2 with ⟨h, _⟩ | ⟨r, h, hr, _⟩
      · rw [ha] at h; cases h
      · rw [ha] at h; cases h
        subst hb
        have hr' : W.heap[r]? = _ := hr
        rw [hr'] at hc; simp at hc)
    have k3 : W3.heap[W2.heap.size]? = some (.deferred (some [])) := by
      rw [ho3.block _ (Array.getElem?_eq_some_iff.1 hK).1 (fun hy => ?_)]; exact hK
      obtain ⟨ad, ha, hb⟩ := hy
      rcases e2 with ⟨h, _⟩ | ⟨r, h, hr, _⟩
      · rw [ha] at h; cases h
      · rw [ha] at h; cases h
        have hr' : W.heap[r]? = _ := hr
        rw [← hb, hr'] at hK; cases hK
    have HO : Hid (Arr W3 a c (hs ++ L') ∧ BsAt (fun x => O x ∨ w.heap.size ≤ x) W3 hs (crashB bs dn k t) ∧ Blk W3 (q + 2) [.slice none 0 0, .int .i64 0] 76 ∧ W3.heap[W2.heap.size]? = some (.deferred (some [])) ∧ Out (blkOf a) w W3 ∧ m = (crashB bs dn k t).length ∧ m ≤ n) := ⟨ha3, b3, r3, k3, hst.out.trans ho3 (fun _ e => .inl e), hm, hmn⟩
    have c0 : W.cell? ⟨q, 0, none⟩ = some (.slice a n c) := hst.z.cell 0
    have c1 : W.cell? ⟨q + 3, 0, none⟩ = some (.slice a m c) := hg.cell 0
    have c2 : W3.cell? ⟨q + 3, 0, none⟩ = some (.slice a m c) := g3.cell 0
    have e0 : W3.cell? ⟨q + 2, 0, none⟩ = some (.slice none 0 0) := r3.cell 0
    have e1' : W3.cell? ⟨q + 2, 1, none⟩ = some (.int .i64 0) := r3.cell 1
    have f0 := r3.frozen 0
    have f1 := r3.frozen 1
    have HK : Hid (j ≤ n - dn) := hj
    clear hst hK he e1 e2 e3 hm hmm hmn ho3 ha3 hg z3 r3 g3 b3 k3 hj
    go_wp2
    obtain ⟨ha3, b3, r3, k3, ho3, hm, hmn⟩ := HO.out
    have r4 := ((r3.set 0 (.slice a m c)).set 1 (.int .i64 m))
    have hK' : ((W3.setCell ⟨q + 2, 0, none⟩ (.slice a m c)).setCell ⟨q + 2, 1, none⟩ (.int .i64 m)).heap[W2.heap.size]? = some (.deferred (some [])) := by
      rw [Below.heap_setCell _ _ _ _ (by show W2.heap.size ≠ q + 2; omega), Below.heap_setCell _ _ _ _ (by show W2.heap.size ≠ q + 2; omega)]; exact k3
    have hcm := calm_shut hK' (.deferred none)
    have rw3 : RowAt (fun x => O x ∨ w.heap.size ≤ x) W3 (.slice a (crashB bs dn k t).length c) (crashB bs dn k t) := ha3.row b3 (by obtain ⟨_, _, _, _, h4⟩ := HB.out.1; have := HA.out.2.2.2.1; omega) (fun r e => .inl (HA.out.2.2.2.2.2 r e))
    have hrow := hcm.row (out_row (r3.set 0 (.slice a m c)) (by decide) (by decide) 1 (.int .i64 m) (out_row r3 (by decide) (by decide) 0 (.slice a m c) rw3))
    have hq : q = w.heap.size := HB.out.2.2.2.2.2
    have hbel : Out (blkOf a) w ((W3.setCell ⟨q + 2, 0, none⟩ (.slice a m c)).setCell ⟨q + 2, 1, none⟩ (.int .i64 m)) := (ho3.setCell (p := ⟨q + 2, 0, none⟩) (.inr (by show w.heap.size ≤ q + 2; omega)) _).setCell (p := ⟨q + 2, 1, none⟩) (.inr (by show w.heap.size ≤ q + 2; omega)) _
    refine ⟨by simp, .inl ⟨_, _, rfl, run_takeDeferred hK', ?_⟩⟩
    refine ⟨_, results_cell_one (p := 4) (ty := 76) rfl _ _ (q + 2) _ _ _ rfl (hcm.blk r4) Try.underlying76 rfl Try.info_zone, by rw [← hm]; rfl, hrow, hcm.out hbel (by omega)⟩
end Go.Proofs.Yteokhkoaieibmaa
