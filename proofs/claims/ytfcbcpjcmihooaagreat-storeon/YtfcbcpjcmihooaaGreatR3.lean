/- Texts of this seat, one behind the other: ZOpen. -/
import Derived.Test.YtfcbcpjcmihooaaGreatP20
import Derived.Test.YtfcbcpjcmihooaaGreatP13
import Derived.Test.YtfcbcpjcmihooaaGreatP14
import Derived.Test.YtfcbcpjcmihooaaGreatP23
import Derived.Test.YtfcbcpjcmihooaaGreatR2
/- What one call of Open does. -/
namespace Go.Proofs.YtfcbcpjcmihooaaGreat
open Go.RowKit Go.Shelf
set_option linter.unusedVariables false

theorem cutW_front (S : Nat) : ∀ bs : List (List Int), (cutW S bs).length = bs.length → cutW S bs = bs ∧ ∀ D ∈ bs, D.length = S
  | [], _ => ⟨rfl, by simp⟩
  | D :: bs, h => by
    unfold cutW at h ⊢
    rw [List.takeWhile_cons] at h ⊢
    by_cases e : (D.length == S) = true
    · rw [if_pos e] at h ⊢
      obtain ⟨h1, h2⟩ := cutW_front S bs (by unfold cutW; simpa using h)
      unfold cutW at h1
      refine ⟨by rw [h1], fun E hE => ?_⟩
      rcases List.mem_cons.1 hE with rfl | hE
      · simpa using e
      · exact h2 E hE
    · rw [if_neg e] at h
      simp at h
theorem op_mem {T : TypeId} {O : Nat → Prop} {V w' : World} {p : Nat} {s : Sh} {zs : List Zn} {g cz : Nat} {vs : List Value} {i : Nat} {z : Zn} {u u' : Value} {B : List (List Int)} (hO : ∀ x, V.heap.size ≤ x → O x) (hv : DvV T O V p s zs g cz vs) (hz : zs[i]? = some z) (hu : vs[i]? = some u)
    (hr : RowAt (fun x => V.heap.size ≤ x) w' u' B) (hb : Below V.heap.size V w') (d : Int) :
    w'.cell? ⟨g, i * 2, none⟩ = some u ∧ w'.cell? ⟨g, i * 2 + 1, none⟩ = some (.int .i64 z.2) ∧ (∀ j, w'.frozen? ⟨g, j, none⟩ = false) ∧ ∃ vs', DvV T O ((w'.setCell ⟨g, i * 2, none⟩ u').setCell ⟨g, i * 2 + 1, none⟩ (.int .i64 d)) p s (zs.set i (B, d)) g cz vs' ∧ vs'[i]? = some u' := by
  have hi := (List.getElem?_eq_some_iff.1 hz).1
  have hvl := hv.vl
  have hown : ∀ r, u'.ownBlock = some r → V.heap.size ≤ r := by obtain ⟨uv, u1, u2, _⟩ := hr; exact u2
  obtain ⟨k1, k2, k3, hd⟩ := hv.upd (O1 := O) hz hu (below_out _ hb) (fun _ h => h) (hr.mono (fun x hx _ => hO x hx)) (.inr hown)
  have hd2 := hd.setD (i := i) (z := (B, z.2)) (by simp [hi]) d
  rw [List.set_set] at hd2
  exact ⟨k1, k2, k3, _, hd2, by rw [List.getElem?_set_self (by omega)]⟩
/-- A zone that Open takes. -/
def GoodZ (s : Sh) (z : Zn) : Prop := (z.1.length : Int) ≤ s.zb ∧ 0 ≤ z.2 ∧ z.2 ≤ z.1.length ∧ ∀ D ∈ z.1, (D.length : Int) = s.b
theorem wf_bad {s : Sh} {zs : List Zn} {i : Nat} {z : Zn} (hz : zs[i]? = some z) (h : ¬ GoodZ s z) : ¬ Wf s zs := fun hw => h (hw.zone z (List.mem_of_getElem? hz))
def Opened (T : TypeId) (W : World) (s : Sh) (zs : List Zn) (e : Ending) (w' : World) : Prop :=
  Below W.heap.size W w' ∧ ((¬ Wf s zs ∧ e = .returned (.pointer none)) ∨ (Wf s zs ∧ ∃ p, e = .returned (.pointer (some ⟨p, 0, none⟩)) ∧ Dv T (fun x => W.heap.size ≤ x) w' p s zs))
set_option maxHeartbeats 8000000 in
set_option maxRecDepth 20000 in
theorem zopen_of (s : Sh) (a : Option Addr) (n c : Nat) (zs : List Zn) (W : World) (hz : -9223372036854775808 ≤ s.z) (hl : ZsIn W a n zs) : Calls Tryz.prog 54 #[.agg (shL s).toArray, .slice a n c] W (Opened 134 W s zs) := by
  obtain ⟨q, hq⟩ : ∃ q, q = W.heap.size := ⟨_, rfl⟩
  have hb : Blk (W.alloc (.cells #[.int .i64 s.z, .int .i64 s.zb, .int .i64 s.b, .int .i64 s.r] 23)) q (shL s) 23 := Blk.new' hq.symm rfl
  have hbel : Below W.heap.size W (W.alloc (.cells #[.int .i64 s.z, .int .i64 s.zb, .int .i64 s.b, .int .i64 s.r] 23)) := (Below.refl _ _).alloc (Nat.le_refl _) _
  simp only [shL]
  go_enter Tryz.func54, Tryz.ntmps54
  go_upto_region 1 with fail
  rw [← hq]
  generalize hW1 : World.alloc _ _ = W1 at *
  have cells : ∀ {V : World}, Below W1.heap.size W1 V → V.cell? ⟨q, 0, none⟩ = some (.int .i64 s.z) ∧ V.cell? ⟨q, 1, none⟩ = some (.int .i64 s.zb) ∧ V.cell? ⟨q, 2, none⟩ = some (.int .i64 s.b) ∧ V.cell? ⟨q, 3, none⟩ = some (.int .i64 s.r) := by
    intro V hV
    have h := (below_out Non hV).blk hb id
    exact ⟨h.cell 0, h.cell 1, h.cell 2, h.cell 3⟩
  obtain ⟨e0, e1, e2, e3⟩ := cells (Below.refl _ _)
  have HC : Hid (∀ {V : World}, Below W1.heap.size W1 V → V.cell? ⟨q, 0, none⟩ = some (.int .i64 s.z) ∧ V.cell? ⟨q, 1, none⟩ = some (.int .i64 s.zb) ∧ V.cell? ⟨q, 2, none⟩ = some (.int .i64 s.b) ∧ V.cell? ⟨q, 3, none⟩ = some (.int .i64 s.r)) := cells
  have HB : Hid (Below W.heap.size W W1 ∧ -9223372036854775808 ≤ s.z ∧ ZsIn W a n zs) := ⟨hbel, hz, hl⟩
  clear cells hb hbel hz hl hW1 hq
  by_cases hr : RightS s
  · have HR : Hid (RightS s) := hr
    clear hr
    go_upto_region 2 with (go_at_call 42; refine (new_of s _ HB.out.2.1).mono ?_; rintro e W5 ⟨b5, (⟨hno, _⟩ | ⟨_, p, rfl, dv5⟩)⟩; (exact (hno HR.out).elim))
    obtain ⟨g0, g1, g2, g3⟩ := HC.out b5
    have hnn := HB.out.2.2.1
    have hn1000 := HB.out.2.2.2.1
    by_cases hlen : (n : Int) = s.z
    · obtain ⟨g, cz, vs0, hv5⟩ := dv5
      have hemp : (emptyZ s.z.toNat).length = n := by simp [emptyZ]; omega
      have hsb := power_bounds HR.out.2.2.2.2.1
      obtain ⟨S, hS⟩ : ∃ S : Nat, s.b = S := ⟨s.b.toNat, by omega⟩
      obtain ⟨E, hE⟩ : ∃ E, E = emptyZ s.z.toNat := ⟨_, rfl⟩
      rw [← hE] at hv5 hemp
      have H5 : Hid (DvV 134 (fun x => W1.heap.size ≤ x) W5 p s E g cz vs0 ∧ Below W1.heap.size W1 W5 ∧ E.length = n ∧ zs.length = n ∧ s.b = S ∧ 0 < S ∧ S ≤ 100000) := ⟨hv5, b5, hemp, hnn, hS, by omega, by omega⟩
      rw [← hlen] at g0
      have Hlen : Hid ((n : Int) = s.z) := hlen
      clear hv5 b5 hE hemp e0 e1 e2 e3 hS hsb hlen
      go_wp2
      go_loopw [21] (fun x wr => ∃ i : Nat, x = .int .i64 i ∧ i ≤ n ∧ (∃ vs', DvV 134 (fun x => W1.heap.size ≤ x) wr p s (upTo (fun j _ => zs.getD j ([], 0)) E i) g cz vs') ∧ Below W1.heap.size W1 wr ∧ ∀ z ∈ zs.take i, GoodZ s z) (fun x wr => n - (intOf x).toNat)
      case atStart => exact ⟨0, rfl, Nat.zero_le _, ⟨vs0, by rw [upTo_zero]; exact H5.out.1⟩, H5.out.2.1, by simp⟩
      case round =>
        obtain ⟨i, rfl, hi, ⟨vs', hv⟩, hb, hgood⟩ := hrel
        rcases Nat.lt_or_ge i n with hlt | hge
        · obtain ⟨z, hz⟩ : ∃ z, zs[i]? = some z := ⟨zs[i]'(by omega), by simp⟩
          obtain ⟨y, hy⟩ : ∃ y, E[i]? = some y := ⟨E[i]'(by have := H5.out.2.2.1; omega), by simp⟩
          have hy' := (upTo_get (fun j _ => zs.getD j ([], 0)) E i).trans hy
          obtain ⟨ua, uc, hu, hr, z0, z1⟩ := hv.at hy'
          have hbw := HB.out.1.trans (hb.mono HB.out.1.size)
          obtain ⟨b, off, rfl, hc⟩ := (HB.out.2.2.below hbw).2.2.resolve_left (by omega)
          obtain ⟨A, L, C, d0, d1, hbs⟩ := hc i z hz
          have hL := hbs.1
          obtain ⟨q2, hq2⟩ : ∃ q2, q2 = wr.heap.size := ⟨_, rfl⟩
          obtain ⟨dd, hdd⟩ : ∃ dd, dd = z.2 := ⟨_, rfl⟩
          rw [← hdd] at d1
          have hi' : (i : Int) < (n : Int) := by omega
          have hw1 : IntKind.i64.wrap ((i : Int) + 1) = (i : Int) + 1 := by rw [IntKind.wrap_i64]; omega
          have HX : Hid (Blk (wr.alloc (.cells #[.slice A L C, .int .i64 dd] 107)) q2 [.slice A L C, .int .i64 dd] 107 ∧ Below wr.heap.size wr (wr.alloc (.cells #[.slice A L C, .int .i64 dd] 107))) := ⟨Blk.new' hq2.symm rfl, (Below.refl _ _).alloc (Nat.le_refl _) _⟩
          have HI : Hid (zs[i]? = some z ∧ E[i]? = some y ∧ DvV 134 (fun x => W1.heap.size ≤ x) wr p s (upTo (fun j _ => zs.getD j ([], 0)) E i) g cz vs' ∧ Below W1.heap.size W1 wr ∧ (∀ z ∈ zs.take i, GoodZ s z) ∧ vs'[i]? = some (.slice ua y.1.length uc) ∧ BsIn wr A L z.1 ∧ z.1.length = L ∧ dd = z.2 ∧ q2 = wr.heap.size) := ⟨hz, hy, hv, hb, hgood, hu, hbs, hL, hdd, hq2⟩
          clear hz hy hy' hv hb hgood hu hbs hr z0 z1 hc hbw hL hdd g0 g1 g2 g3
          go_upto_region 7 with fail
          rw [← hq2]
          generalize hVV : World.alloc _ _ = V at HX ⊢
          clear hVV hq2 d0 d1
          have hbV := HI.out.2.2.2.1.trans (HX.out.2.mono HI.out.2.2.2.1.size)
          obtain ⟨g0, g1, g2, g3⟩ := HC.out hbV
          rw [H5.out.2.2.2.2.1] at g2
          have x0 : V.cell? ⟨q2, 0, none⟩ = some (.slice A L C) := HX.out.1.cell 0
          have x1 : V.cell? ⟨q2, 1, none⟩ = some (.int .i64 dd) := HX.out.1.cell 1
          have HBV : Hid (Below W1.heap.size W1 V) := hbV
          have bad : ∀ {X : World}, ¬ GoodZ s z → Below W1.heap.size W1 X → Opened 134 W s zs (.returned (.pointer none)) X := fun h hX => ⟨HB.out.1.trans (hX.mono HB.out.1.size), .inl ⟨wf_bad HI.out.1 h, rfl⟩⟩
          have HBad : Hid (∀ {X : World}, ¬ GoodZ s z → Below W1.heap.size W1 X → Opened 134 W s zs (.returned (.pointer none)) X) := bad
          clear hbV bad
          by_cases h1 : s.zb < (L : Int)
          · have hN : Hid (¬ GoodZ s z) := fun h => by have := h.1; have := HI.out.2.2.2.2.2.2.2.1; omega
            have h1d : decide (s.zb < (L : Int)) = true := by simp; omega
            go_wp2
            go_ret
            exact HBad.out hN.out HBV.out
          · have h1' : (L : Int) ≤ s.zb := by omega
            have h1d : decide (s.zb < (L : Int)) = false := by simp; omega
            by_cases h2 : 0 ≤ dd ∧ dd ≤ (L : Int)
            · skip
              have hvV := HI.out.2.2.1.under HX.out.2
              have c4V := hvV.pcell.2.2.2.2
              rw [upTo_length, H5.out.2.2.1] at c4V
              obtain ⟨Lg, hLg⟩ := own_blk HI.out.2.2.1.hg
              have hgl := hLg.lt
              have hgo : W1.heap.size ≤ g := hvV.og
              have hqlt : q < W1.heap.size := old_block (HC.out (Below.refl _ _)).1
              obtain ⟨Lg2, hLg2⟩ := own_blk hvV.hg
              have hpg : p ≠ g := blk_ne hvV.hp hLg2 (by decide)
              have hqg2 : q2 ≠ g := by have := HI.out.2.2.2.2.2.2.2.2.2; omega
              have hqg : q ≠ g := by omega
              have HC9 : Hid (∀ X, Below V.heap.size V X → Calls Tryz.prog 115 #[.agg #[.slice A L C, .int .i64 dd], .int .i64 S] X (Copied X z.1 S dd)) := fun X hX => copied_of A L C S dd z.1 X (HI.out.2.2.2.2.2.2.1.below (HX.out.2.trans (hX.mono HX.out.2.size))) H5.out.2.2.2.2.2.1 H5.out.2.2.2.2.2.2
              have HM9 : Hid (∀ w3 u', RowAt (fun x => V.heap.size ≤ x) w3 u' (cutW S z.1) → Below V.heap.size V w3 →
                  w3.cell? ⟨g, i * 2, none⟩ = some (.slice ua y.1.length uc) ∧ w3.cell? ⟨g, i * 2 + 1, none⟩ = some (.int .i64 y.2) ∧ (∀ j, w3.frozen? ⟨g, j, none⟩ = false) ∧ ∃ vs', DvV 134 (fun x => W1.heap.size ≤ x) ((w3.setCell ⟨g, i * 2, none⟩ u').setCell ⟨g, i * 2 + 1, none⟩ (.int .i64 dd)) p s ((upTo (fun j _ => zs.getD j ([], 0)) E i).set i (cutW S z.1, dd)) g cz vs' ∧ vs'[i]? = some u') :=
                fun w3 u' h1 h2 => op_mem (fun x hx => Nat.le_trans HBV.out.size hx) hvV ((upTo_get (fun j _ => zs.getD j ([], 0)) E i).trans HI.out.2.1) HI.out.2.2.2.2.2.1 h1 h2 dd
              have HG : Hid (W1.heap.size ≤ g ∧ q2 ≠ g ∧ Blk V p [.int .i64 s.z, .int .i64 s.zb, .int .i64 s.b, .int .i64 s.r, .slice (some ⟨g, 0, none⟩) n cz] 134) := by
                have := hvV.hp
                rw [upTo_length, H5.out.2.2.1] at this
                exact ⟨hgo, hqg2, this⟩
              have HH : Hid (0 ≤ dd ∧ dd ≤ (L : Int)) := h2
              clear hvV hLg hLg2 hgl hgo hqlt h2
              obtain ⟨_, _, _, _, z0V, z1V⟩ := (HI.out.2.2.1.under HX.out.2).at ((upTo_get (fun j _ => zs.getD j ([], 0)) E i).trans HI.out.2.1)
              go_upto_region 9 with (go_at_call 113; refine (within_of _ _ _ _).mono ?_; rintro e w' ⟨rfl, hw'⟩; replace hw' := hw'.symm; subst hw'; rw [show (decide ((0 : Int) ≤ dd) && decide (dd ≤ (L : Int))) = true by simp; exact HH.out])
              refine wp_region_noPanic ?_
              go_region_law (go_simp; go_at_call 115; refine (HC9.out _ (by exact (Below.refl _ _).drew)).mono ?_; rintro e w3 ⟨v3, rfl, r3, b3⟩; obtain ⟨va, vc, hv3⟩ := r3.slice; subst hv3; obtain ⟨m5, m6, m7, vs9, hd9, hu9⟩ := HM9.out w3 _ r3 ⟨b3.os, b3.tape, b3.output, b3.size, b3.block⟩; have b3' : Below V.heap.size V w3 := ⟨b3.os, b3.tape, b3.output, b3.size, b3.block⟩; have bq3 := (below_out Non b3').blk HX.out.1 id; have m4 : w3.cell? ⟨p, 4, none⟩ = some (.slice (some ⟨g, 0, none⟩) n cz) := ((below_out Non b3').blk HG.out.2.2 id).cell 4; have m0 : w3.cell? ⟨q2, 0, none⟩ = some (.slice A L C) := bq3.cell 0; have m1 : w3.cell? ⟨q2, 1, none⟩ = some (.int .i64 dd) := bq3.cell 1; have m8 := m7 (i * 2); have m9 := m7 (i * 2 + 1))
              all_goals
                refine NoPanic.normal ?_
                have HF : Hid ((∃ vs', DvV 134 (fun x => W1.heap.size ≤ x) ((w3.setCell ⟨g, i * 2, none⟩ (.slice va (cutW S z.1).length vc)).setCell ⟨g, i * 2 + 1, none⟩ (.int .i64 dd)) p s ((upTo (fun j _ => zs.getD j ([], 0)) E i).set i (cutW S z.1, dd)) g cz vs' ∧ vs'[i]? = some (.slice va (cutW S z.1).length vc)) ∧ Below W1.heap.size W1 ((w3.setCell ⟨g, i * 2, none⟩ (.slice va (cutW S z.1).length vc)).setCell ⟨g, i * 2 + 1, none⟩ (.int .i64 dd)) ∧ Blk ((w3.setCell ⟨g, i * 2, none⟩ (.slice va (cutW S z.1).length vc)).setCell ⟨g, i * 2 + 1, none⟩ (.int .i64 dd)) q2 [.slice A L C, .int .i64 dd] 107) := by
                  refine ⟨⟨vs9, hd9, hu9⟩, ?_, ?_⟩
                  · exact ((HBV.out.trans (b3'.mono HBV.out.size)).setCell (p := ⟨g, i * 2, none⟩) HG.out.1 _).setCell (p := ⟨g, i * 2 + 1, none⟩) HG.out.1 _
                  · exact (bq3.set_other (a := ⟨g, i * 2, none⟩) HG.out.2.1 _).set_other (a := ⟨g, i * 2 + 1, none⟩) HG.out.2.1 _
                clear hd9 hu9 b3 b3' bq3 m0 m1 m4 m5 m6 m7 m8 m9 r3 z0V z1V c4V x0 x1 g0 g1 g2 g3
                generalize World.setCell _ _ _ = V9 at HF ⊢
                obtain ⟨vs8, hd8, hu8⟩ := HF.out.1
                have n4 := hd8.pcell.2.2.2.2
                rw [List.length_set, upTo_length, H5.out.2.2.1] at n4
                obtain ⟨ua8, uc8, hu8', _, n0, _⟩ := hd8.at (i := i) (z := (cutW S z.1, dd)) (by rw [List.getElem?_set_self (by rw [upTo_length, H5.out.2.2.1]; exact hlt)])
                have hue : ua8 = va ∧ uc8 = vc := by rw [hu8] at hu8'; cases hu8'; exact ⟨rfl, rfl⟩
                obtain ⟨rfl, rfl⟩ := hue
                have n0' : V9.cell? ⟨g, i * 2, none⟩ = some (.slice ua8 (cutW S z.1).length uc8) := n0
                have n2 : V9.cell? ⟨q2, 0, none⟩ = some (.slice A L C) := HF.out.2.2.cell 0
                obtain ⟨M, hM⟩ : ∃ M, M = (cutW S z.1).length := ⟨_, rfl⟩
                rw [← hM] at n0' ⊢
                have HMM : Hid (M = (cutW S z.1).length) := hM
                clear hd8 hu8 hu8' n0 hM
                by_cases hML : M = L
                · have HN : Hid ((∃ vs', DvV 134 (fun x => W1.heap.size ≤ x) V9 p s (upTo (fun j _ => zs.getD j ([], 0)) E (i + 1)) g cz vs') ∧ Below W1.heap.size W1 V9 ∧ ∀ z ∈ zs.take (i + 1), GoodZ s z) := by
                    have hcf := cutW_front S z.1 (by rw [← HMM.out, hML]; exact HI.out.2.2.2.2.2.2.2.1.symm)
                    have hdz := HI.out.2.2.2.2.2.2.2.2.1
                    refine ⟨?_, HF.out.2.1, ?_⟩
                    · obtain ⟨vs8, hd8, _⟩ := HF.out.1
                      refine ⟨vs8, ?_⟩
                      rw [← upTo_next _ _ HI.out.2.1]
                      have e : zs.getD i ([], 0) = (cutW S z.1, dd) := by rw [hcf.1, hdz]; simp [List.getD, HI.out.1]
                      rw [e]
                      exact hd8
                    · rw [take_snoc HI.out.1]
                      intro z9 hz9
                      rcases List.mem_append.1 hz9 with h | h
                      · exact HI.out.2.2.2.2.1 z9 h
                      · rw [List.mem_singleton.1 h]
                        have hzl := HI.out.2.2.2.2.2.2.2.1
                        have hh := HH.out
                        have hS := H5.out.2.2.2.2.1
                        exact ⟨by omega, by omega, by omega, fun D hD => by rw [hcf.2 D hD, hS]⟩
                  subst hML
                  go_wp2
                  go_region_held3 (fun X => X.cell? ⟨p, 4, none⟩ = some (.slice (some ⟨g, 0, none⟩) n cz) ∧ X.cell? ⟨g, i * 2, none⟩ = some (.slice ua8 M uc8) ∧ X.cell? ⟨q2, 0, none⟩ = some (.slice A M C)) (exact ⟨n4, n0', n2⟩) (fail)
                  go_wp2
                  go_roundw
                  case rel => exact ⟨i + 1, by simp, by omega, by obtain ⟨v8, h8⟩ := HN.out.1; exact ⟨v8, h8.under (Below.refl _ _).drew⟩, HN.out.2.1.drew, HN.out.2.2⟩
                  case measure => simp [intOf]; omega
                · have hN : Hid (¬ GoodZ s z) := fun h => hML (by
                    rw [HMM.out, cutW_all (fun D hD => by have := h.2.2.2 D hD; have := H5.out.2.2.2.2.1; omega)]
                    exact HI.out.2.2.2.2.2.2.2.1)
                  have hML' : ((M : Int) == (L : Int)) = false := by simp; omega
                  have hML2 : (M == L) = false := by simp [hML]
                  go_wp2
                  go_region_held3 (fun X => X.cell? ⟨p, 4, none⟩ = some (.slice (some ⟨g, 0, none⟩) n cz) ∧ X.cell? ⟨g, i * 2, none⟩ = some (.slice ua8 M uc8) ∧ X.cell? ⟨q2, 0, none⟩ = some (.slice A L C)) (exact ⟨n4, n0', n2⟩) (fail)
                  go_wp2
                  go_ret
                  exact HBad.out hN.out HF.out.2.1.drew
            · have hN : Hid (¬ GoodZ s z) := fun h => h2 (by have := h.2.1; have := h.2.2.1; have := HI.out.2.2.2.2.2.2.2; omega)
              have h2d : (decide ((0 : Int) ≤ dd) && decide (dd ≤ (L : Int))) = false := by simp; omega
              clear h2
              go_wp2_with (go_at_call 113; refine (within_of _ _ _ _).mono ?_; rintro e w' ⟨rfl, hw'⟩; replace hw' := hw'.symm; subst hw'; rw [h2d])
              go_ret
              exact HBad.out hN.out HBV.out
        · obtain rfl : i = n := by omega
          have HF : Hid (Opened 134 W s zs (.returned (.pointer (some ⟨p, 0, none⟩))) wr) := by
            refine ⟨HB.out.1.trans (hb.mono HB.out.1.size), .inr ⟨⟨HR.out, by have := Hlen.out; omega, fun z hz => ?_⟩, p, rfl, ?_⟩⟩
            · rw [List.take_of_length_le (by omega)] at hgood
              exact hgood z hz
            · have e : upTo (fun j _ => zs.getD j ([], 0)) E i = zs := by
                rw [upTo_all _ _ (by have := H5.out.2.2.1; omega)]
                apply List.ext_getElem?
                intro j
                rw [List.getElem?_mapIdx]
                by_cases hj : j < i
                · have h1 : E[j]? = some (E[j]'(by have := H5.out.2.2.1; omega)) := by simp
                  have h2 : zs[j]? = some (zs[j]'(by omega)) := by simp
                  rw [h1, h2]; simp [List.getD, h2]
                · rw [List.getElem?_eq_none (by have := H5.out.2.2.1; omega), List.getElem?_eq_none (by omega)]; rfl
              rw [e] at hv
              exact ⟨g, cz, vs', hv.mono (fun x hx _ => Nat.le_trans HB.out.1.size hx)⟩
          clear hv hb hgood
          go_wp2
          go_ret
          exact HF.out
    · have hne : ((n : Int) == s.z) = false := by simp [hlen]
      have HN : Hid (Opened 134 W s zs (.returned (.pointer none)) W5) := ⟨HB.out.1.trans (b5.mono HB.out.1.size), .inl ⟨fun h => hlen (by have := h.len; omega), rfl⟩⟩
      clear dv5 b5 hnn hn1000
      go_wp2
      go_ret
      exact HN.out
  · have HR : Hid (¬ RightS s) := hr
    clear hr
    go_wp2_with (go_at_call 42; refine (new_of s _ HB.out.2.1).mono ?_; rintro e W5 ⟨b5, (⟨_, rfl⟩ | ⟨hno, _⟩)⟩; rotate_left; (exact (HR.out hno).elim); obtain ⟨n0, m1, m2, m3⟩ := HC.out b5)
    go_ret
    exact ⟨HB.out.1.trans (b5.mono HB.out.1.size), .inl ⟨fun h => HR.out h.right, rfl⟩⟩
end Go.Proofs.YtfcbcpjcmihooaaGreat
