/- P37 -/
import Derived.Test.YtcdnjeiamihhbabGreatP36
set_option linter.unusedVariables false
set_option maxRecDepth 4000
namespace Go.Proofs.YtcdnjeiamihhbabGreat
open Go.RowKit
section
theorem wrap_inc (q : Int) : IntKind.u64.wrap (q + 1) = incU q := by
 simp [IntKind.wrap, incU, IntKind.bits, IntKind.signed]
theorem PtsIn.len {X : Nat → Prop} {w : World} {a : Option Addr} {n : Nat} {l : List Pt} (h : PtsIn X w a n l) : ∀ p ∈ l, p.d.length ≤ 10000 := by
 intro p hp
 obtain ⟨i, hi⟩ := List.getElem?_of_mem hp
 rcases h.2.2 with h0 | ⟨b, off, _, _, hc⟩
 ·have := (List.getElem?_eq_some_iff.1 hi).1; have := h.1; omega
 ·obtain ⟨_, _, _, _, h2, _, h4, _⟩ := hc i p hi
  have := h2.1
  omega
theorem itP_fits {p : Pt} (h : p.Fits) (hl : p.d.length ≤ 10000) : (itP p).Fits := by
 have he : endsN p.d ≤ p.d.length := (ends_at p.d).1
 unfold itP
 split
 ·exact ⟨h.1, h.2.1, by show Fits8 2; unfold Fits8; omega, by show Fits32 0; unfold Fits32; omega, by show Fits16 0; unfold Fits16; omega⟩
 ·exact ⟨h.1, h.2.1, by show Fits8 1; unfold Fits8; omega, crI_fits (by unfold Fits32; omega) h.2.2, by show Fits16 ((endsN p.d : Nat) : Int); unfold Fits16; omega⟩
theorem encB_len (q : Int) (xs : List It) (b : Int) : (encB q xs b).length ≤ 4096 := by
 unfold encB
 split
 ·rename_i h
  have := h.bounds
  rw [enc_length (by omega)]
  omega
 ·simp
theorem encB_fits (q : Int) (xs : List It) (b : Int) : ∀ z ∈ encB q xs b, Fits8 z := by
 unfold encB
 split
 ·exact enc_fits _ _ _
 ·simp
/-- The record that is being filled. -/
structure WI (q : Nat) (V wr : World) (S : Int) (A : Option Addr) (j C : Nat) (xs : List It) : Prop where
 rc : Blk wr q [.int .u64 S, .slice A j C] 47
 ow : wr.ownsRow (q + 1) 50 5 (.slice A j C) j (itC xs)
 bel : Below q V wr
section
variable {q : Nat} {V wr w' : World} {S : Int} {A : Option Addr} {j C : Nat} {xs : List It}
theorem WI.below (h : WI q V wr S A j C xs) (hb : Below wr.heap.size wr w') : WI q V w' S A j C xs := by
 have h1 := h.rc.lt
 refine ⟨h.rc.below hb h1, ?_, h.bel.trans (hb.mono (by omega))⟩
 refine ⟨h.ow.1, ?_⟩
 rcases h.ow.2 with h2 | ⟨g, cap, cur, hv, hbg, hg, hr⟩
 ·exact .inl h2
 ·exact .inr ⟨g, cap, cur, hv, hbg, by rw [hb.block g (Array.getElem?_eq_some_iff.1 hg).1]; exact hg, hr⟩
theorem WI.more {A' : Option Addr} {C' : Nat} {x : It} (h : WI q V wr S A j C xs) (ho : w'.ownsRow (q + 1) 50 5 (.slice A' (j + 1) C') (j + 1) (itC (xs ++ [x]))) (hb : Below (q + 1) wr w') : WI q V (w'.setCell ⟨q, 1, none⟩ (.slice A' (j + 1) C')) S A' (j + 1) C' (xs ++ [x]) :=
 ⟨(h.rc.below hb (by omega)).set 1 _, ownsItems_set ho (by show q < q + 1; omega) _, (h.bel.trans (hb.mono (by omega))).setCell (by show q ≤ q; omega) _⟩
end
section
variable {D : Nat → Prop} {W : World} {k : Bs} {st : St} {c : Nat}
theorem StV.poke {g : Nat} (h : StV D W k st c) (hg : ¬ StO D k g) (i : Nat) (u : Value) : StV D (W.setCell ⟨g, i, none⟩ u) k st c :=
 h.out (out_one W g i u) (fun x hx e => hg (e ▸ hx))
theorem appA_fits {s : Sh} {zs : List Zn} (h : Wf s zs) {z : Nat} (hz : z < zs.length) (E : List Int) : FitsS (appA s zs z E) := by
 have h1 := h.at_le z
 have h2 := h.right.2.2.2.1
 have h3 := h.len
 have h4 := h.right.2.1
 unfold appA
 split
 ·split
  ·exact ⟨by show I64 0; unfold I64; omega, by show I64 0; unfold I64; omega⟩
  ·exact ⟨by show I64 (z : Int); unfold I64; omega, by show I64 _; unfold I64; omega⟩
 ·exact ⟨by show I64 0; unfold I64; omega, by show I64 0; unfold I64; omega⟩
set_option maxHeartbeats 8000000 in
theorem write_of (z : Nat) (h : StV D W k st c) (hz : z < st.zs.length) (a : Option Addr) (n cc : Nat) (l : List Pt) (X : Nat → Prop) (hl : PtsIn X W a n l) (hX : ∀ x, X x → ¬ StO D k x ∧ x < W.heap.size) (hc : c + n < 100000) :
  Calls Tryz.prog 34 #[.pointer (some ⟨k.ps, 0, none⟩), .int .i64 (z : Nat), .slice a n cc] W fun e w' => e = .returned (.tuple #[]) ∧ Sv D W k (writeM st z l) (c + n) w' := by
 obtain ⟨c0, c1, c2, c3, c4, c5⟩ := h.cells
 have f3 := h.hp.frozen 3
 have hq := wrap_inc st.q
 have H : Hid (StV D W k st c ∧ PtsIn X W a n l ∧ (∀ x, X x → ¬ StO D k x ∧ x < W.heap.size) ∧ c + n < 100000 ∧ z < st.zs.length) := ⟨h, hl, hX, hc, hz⟩
 have HV1 : Hid (Sv D W k { st with q := incU st.q } c (W.setCell ⟨k.ps, 3, none⟩ (.int .u64 (incU st.q)))) := h.setP (q := incU st.q) (o := st.o) rfl (incU_fits _)
 have hlaz : z < st.la.length := by rw [h.len.2]; exact hz
 have hn1 := hl.2.1
 clear h hl hX hc hz
 go_enter Tryz.func34, Tryz.ntmps34
 go_upto_region 1 with fail
 clear c0 c1 c2 c3 c4 c5 f3 hq
 generalize hW1 : World.setCell W _ _ = W1 at HV1 ⊢
 clear hW1
 obtain ⟨D1, hv1, hD1, ho1⟩ := HV1.out
 obtain ⟨c0, c1, c2, c3, c4, c5⟩ := hv1.cells
 obtain ⟨old, y0⟩ : ∃ old, W1.cell? ⟨k.lb, z, none⟩ = some (.int .u64 old) := ⟨st.la[z], by rw [hv1.hl.cell]; simp [kInts, hlaz]⟩
 have yf := hv1.hl.frozen z
 have n1 : k.ps ≠ k.lb := (nodup7 hv1.ap).1.2.2.2.2.2
 have n2 : k.lb ≠ k.ps := fun e => n1 e.symm
 have HV2 : Hid (Sv D W k { st with q := incU st.q, la := st.la.set z (incU st.q) } c (W1.setCell ⟨k.lb, z, none⟩ (.int .u64 (incU st.q)))) := Sv.next hD1 ho1 (hv1.setLa z (incU st.q))
 clear hv1 hD1 ho1 HV1 c0 c1 c2 c5
 simp only at c3 c4
 go_region
 clear c3 c4 y0 yf n1 n2 hlaz
 have HV3 : Hid (Sv D W k { st with q := incU st.q, la := st.la.set z (incU st.q) } c (W1.setCell ⟨k.lb, z, none⟩ (.int .u64 (incU st.q))).drew) := HV2.out.under (Below.refl _ _).drew
 clear HV2
 generalize World.drew (World.setCell W1 _ _) = W2 at HV3 ⊢
 clear W1
 obtain ⟨D2, hv2, hD2, ho2⟩ := HV3.out
 obtain ⟨_, _, _, c3, _⟩ := hv2.cells
 simp only at c3
 obtain ⟨q, hq⟩ : ∃ q, q = W2.heap.size := ⟨_, rfl⟩
 have HR : Hid (Blk (W2.alloc (.cells #[.int .u64 (incU st.q), .slice none 0 0] 47)) q [.int .u64 (incU st.q), .slice none 0 0] 47 ∧ Below q W2 (W2.alloc (.cells #[.int .u64 (incU st.q), .slice none 0 0] 47)) ∧ (W2.alloc (.cells #[.int .u64 (incU st.q), .slice none 0 0] 47)).heap.size = q + 1) := ⟨Blk.new' hq.symm rfl, (Below.refl _ _).alloc (by omega) _, by simp [hq]⟩
 have HQ : Hid (q = W2.heap.size) := hq
 clear hv2 hD2 ho2
 go_wp2_with fail
 rw [← hq]
 clear hq c3
 generalize World.alloc W2 _ = W3 at HR ⊢
 have HW3 : Hid (WI q W2 W3 (incU st.q) none 0 0 []) := ⟨HR.out.1, World.ownsRow_nil _ _ _ _, HR.out.2.1⟩
 have HP : Hid (∀ V, Below q W2 V → PtsIn X V a n l) := fun V hb => by
  obtain ⟨D2, hv2, hD2, ho2⟩ := HV3.out
  exact (H.out.2.1.out ho2 (fun x hx => (H.out.2.2.1 x hx).1)).out (below_out' (O := fun j => q ≤ j) hb (fun j h _ => h)) (fun x hx => by have := (H.out.2.2.1 x hx).2; have := ho2.size; have := HQ.out; omega)
 clear HR
 go_loopw [39] (fun x wr => ∃ (j : Nat) (A : Option Addr) (C : Nat), x = .int .i64 j ∧ j ≤ n ∧ WI q W2 wr (incU st.q) A j C ((l.take j).map itP)) (fun x _ => n - (intOf x).toNat)
 case atStart => exact ⟨0, none, 0, rfl, Nat.zero_le _, by simpa using HW3.out⟩
 case round =>
  obtain ⟨j, A, C, rfl, hj, hw⟩ := hrel
  rcases Nat.lt_or_ge j n with hlt | hge
  ·have hj' : (j : Int) < n := by omega
   have hwj : IntKind.i64.wrap ((j : Int) + 1) = (j : Int) + 1 := by rw [IntKind.wrap_i64]; omega
   obtain ⟨p, b, off, hp, rfl, hb, A1, L1, C1, hcl, hbin, _, hL1, _, hfit⟩ := (HP.out wr hw.bel).at X hlt
   have x0 : wr.cell? ⟨b, off + j * 4, none⟩ = some (.int .u32 p.t) := hcl 0 _ rfl
   have x1 : wr.cell? ⟨b, off + j * 4 + 1, none⟩ = some (.int .u64 p.b) := hcl 1 _ rfl
   have x2 : wr.cell? ⟨b, off + j * 4 + 2, none⟩ = some (.bool p.x) := hcl 2 _ rfl
   have x3 : wr.cell? ⟨b, off + j * 4 + 3, none⟩ = some (.slice A1 L1 C1) := hcl 3 _ rfl
   obtain ⟨g, hg⟩ : ∃ g, g = wr.heap.size := ⟨_, rfl⟩
   have HV : Hid (WI q W2 (wr.alloc (.cells #[.int .u32 p.t, .int .u64 p.b, .bool p.x, .slice A1 L1 C1] 61)) (incU st.q) A j C ((l.take j).map itP) ∧ Blk (wr.alloc (.cells #[.int .u32 p.t, .int .u64 p.b, .bool p.x, .slice A1 L1 C1] 61)) g [.int .u32 p.t, .int .u64 p.b, .bool p.x, .slice A1 L1 C1] 61) := ⟨hw.below ((Below.refl _ _).alloc (Nat.le_refl _) _), Blk.new' hg.symm rfl⟩
   have HI : Hid (∀ V, Below g wr V → Calls Tryz.prog 70 #[.agg #[.int .u32 p.t, .int .u64 p.b, .bool p.x, .slice A1 L1 C1]] V fun e w' => e = .returned (.agg #[.int .u32 (itP p).t, .int .u64 (itP p).b, .int .u8 (itP p).k, .int .u32 (itP p).s, .int .u16 (itP p).e]) ∧ Below V.heap.size V w') := fun V hV => sitem_of p A1 L1 C1 (hbin.below (by rw [← hg]; exact hV)) hL1
   have hBV : Hid (Below g wr (wr.alloc (.cells #[.int .u32 p.t, .int .u64 p.b, .bool p.x, .slice A1 L1 C1] 61))) := (Below.refl _ _).alloc (by omega) _
   have HN : Hid ((l.take (j + 1)).map itP = (l.take j).map itP ++ [itP p]) := by show _ = _; rw [take_snoc hp]; simp
   generalize (l.take j).map itP = xs at HV HN
   clear hcl hbin hL1 hfit hp hw hb
   go_wp2
   rw [← hg]
   clear x0 x1 x2 x3 hg
   generalize World.alloc wr _ = V at HV hBV ⊢
   have v1 : V.cell? ⟨q, 1, none⟩ = some (.slice A j C) := HV.out.1.rc.cell 1
   have y0 : V.cell? ⟨g, 0, none⟩ = some (.int .u32 p.t) := HV.out.2.cell 0
   have y1 : V.cell? ⟨g, 1, none⟩ = some (.int .u64 p.b) := HV.out.2.cell 1
   have y2 : V.cell? ⟨g, 2, none⟩ = some (.bool p.x) := HV.out.2.cell 2
   have y3 : V.cell? ⟨g, 3, none⟩ = some (.slice A1 L1 C1) := HV.out.2.cell 3
   go_region_law (first
    | (go_simp; go_at_call 70; refine (HI.out _ (by first | exact hBV.out.drew | exact hBV.out)).mono ?_; rintro e V4 ⟨rfl, b4⟩; have st4 : WI q W2 V4 (incU st.q) A j C xs := HV.out.1.below ((Below.refl _ _).drew.trans b4); have m2 : V4.cell? ⟨q, 1, none⟩ = some (.slice A j C) := st4.rc.cell 1; have m3 : ∀ o, (V4.alloc o).cell? ⟨q, 1, none⟩ = some (.slice A j C) := fun o => (st4.rc.alloc o).cell 1; obtain ⟨a9, c9, w9, e9, o9, b9⟩ := app_item st4.ow (itP p) (by omega) (by have := st4.rc.lt; omega); have rc9 := st4.rc.below b9 (by omega); have m4 : w9.cell? ⟨q, 1, none⟩ = some (.slice A j C) := rc9.cell 1; have m5 := rc9.frozen 1; have st9 := st4.more o9 b9)
    | (refine cstep_append_run rfl (.tmp 44) (.tmp 47) 45 45 rfl _ _ rfl rfl _ _ e9 ?_))
   all_goals (
    have H9 : Hid (WI q W2 (w9.setCell ⟨q, 1, none⟩ (.slice a9 (j + 1) c9)) (incU st.q) a9 (j + 1) c9 ((l.take (j + 1)).map itP)) := by
     rw [← HN.out] at st9
     exact st9
    clear e9 o9 b9 rc9 m4 m5 st9 st4 b4 m2 m3 v1 y0 y1 y2 y3
    generalize World.setCell w9 _ _ = V9 at H9 ⊢
    go_wp2
    go_roundw
    case rel => exact ⟨j + 1, a9, c9, by simp, by omega, H9.out⟩
    case measure => simp [intOf]; omega)
  ·obtain rfl : j = n := by omega
   have HT : Hid (WI q W2 wr (incU st.q) A j C (l.map itP)) := by
    rw [List.take_of_length_le (by rw [H.out.2.1.1]; exact Nat.le_refl _)] at hw
    exact hw
   clear hw HW3 HP
   obtain ⟨D2, hv2, hD2, ho2⟩ := HV3.out
   have hbw : Below W2.heap.size W2 wr := by rw [← HQ.out]; exact HT.out.bel
   have hv := hv2.under hbw
   have HSv : Hid (StV D2 wr k { st with q := incU st.q, la := st.la.set z (incU st.q) } c ∧ (∀ x, D2 x → D x ∨ W.heap.size ≤ x) ∧ Out (StO D k) W wr) := ⟨hv, hD2, ho2.under hbw⟩
   have hits : ItsIn wr A j (l.map itP) := own_its HT.out.ow (by unfold maxLen; omega) (fun x hx => by
    obtain ⟨p, hp, rfl⟩ := List.mem_map.1 hx
    exact itP_fits (H.out.2.1.fits p hp) (PtsIn.len H.out.2.1 p hp))
   have r0 : wr.cell? ⟨q, 0, none⟩ = some (.int .u64 (incU st.q)) := HT.out.rc.cell 0
   have r1 : wr.cell? ⟨q, 1, none⟩ = some (.slice A j C) := HT.out.rc.cell 1
   obtain ⟨s0, _⟩ := hv.cells
   have hfb := Tryz.shape_b (.int .i64 st.s.z) (.int .i64 st.s.zb) (.int .i64 st.s.b) (.int .i64 st.s.r)
   have kc : ∀ Y, Below wr.heap.size wr Y → Y.cell? ⟨q, 0, none⟩ = some (.int .u64 (incU st.q)) ∧ Y.cell? ⟨q, 1, none⟩ = some (.slice A j C) ∧ Y.cell? ⟨k.ps, 0, none⟩ = some (.pointer (some ⟨k.pd, 0, none⟩)) := fun Y hY => ⟨(HT.out.below hY).rc.cell 0, (HT.out.below hY).rc.cell 1, (hv.under hY).cells.1⟩
   have HSh : Hid (∀ Y, Below wr.heap.size wr Y → Calls Tryz.prog 28 #[.pointer (some ⟨k.pd, 0, none⟩)] Y fun e Z => e = .returned (.agg #[.int .i64 st.s.z, .int .i64 st.s.zb, .int .i64 st.s.b, .int .i64 st.s.r]) ∧ Below wr.heap.size wr Z ∧ Z.cell? ⟨q, 0, none⟩ = some (.int .u64 (incU st.q)) ∧ Z.cell? ⟨q, 1, none⟩ = some (.slice A j C) ∧ Z.cell? ⟨k.ps, 0, none⟩ = some (.pointer (some ⟨k.pd, 0, none⟩))) := fun Y hY => by
    refine (dshape_of (hv.under hY).dv).mono ?_
    rintro e Z ⟨rfl, hZ⟩
    have hb := hY.trans (hZ.mono hY.size)
    exact ⟨rfl, hb, kc Z hb⟩
   have HEn : Hid (∀ Y, Below wr.heap.size wr Y → Calls Tryz.prog 71 #[.agg #[.int .u64 (incU st.q), .slice A j C], .int .i64 st.s.b] Y fun e Z => ∃ av nv cv ev, e = .returned (.tuple #[.slice av nv cv, .int .u16 ev]) ∧ (BIn Z av nv (encB (incU st.q) (l.map itP) st.s.b) ∧ (av = none → nv = 0 ∧ cv = 0) ∧ Below wr.heap.size wr Z) ∧ Z.cell? ⟨q, 0, none⟩ = some (.int .u64 (incU st.q)) ∧ Z.cell? ⟨q, 1, none⟩ = some (.slice A j C) ∧ Z.cell? ⟨k.ps, 0, none⟩ = some (.pointer (some ⟨k.pd, 0, none⟩))) := fun Y hY => by
    refine (encode_of (incU st.q) A j C (l.map itP) st.s.b Y (incU_fits _) (hits.below hY)).mono ?_
    rintro e Z ⟨av, nv, cv, rfl, ow, hZ, _⟩
    have hb := hY.trans (hZ.mono hY.size)
    have hnv : nv ≤ maxLen := by
     have h1 := ow.1
     have h2 := encB_len (incU st.q) (l.map itP) st.s.b
     simp [u8s] at h1
     unfold maxLen
     omega
    exact ⟨av, nv, cv, _, rfl, ⟨own_bin ow hnv (encB_fits _ _ _), own_nil ow, hb⟩, kc Z hb⟩
   clear hv hv2 hD2 ho2 hbw hits kc
   go_wp2_with fail
   go_region_held3 (fun Y => Y.cell? ⟨q, 0, none⟩ = some (.int .u64 (incU st.q)) ∧ Y.cell? ⟨q, 1, none⟩ = some (.slice A j C) ∧ Y.cell? ⟨k.ps, 0, none⟩ = some (.pointer (some ⟨k.pd, 0, none⟩))) (first | exact ⟨r0, r1, s0⟩ | exact ⟨d0, d1, d2⟩ | exact ⟨e0, e1, e2⟩)
    (first
    | (go_simp; go_at_call 71; refine (HEn.out _ (by exact bY)).mono ?_; rintro e Z ⟨av, nv, cv, ev, rfl, hZ, e0, e1, e2⟩)
    | (go_simp; go_at_call 28; refine (HSh.out _ (by exact (Below.refl _ _).drew)).mono ?_; rintro e Y ⟨rfl, bY, d0, d1, d2⟩))
   have HZ : Hid (BIn Z av nv (encB (incU st.q) (l.map itP) st.s.b) ∧ (av = none → nv = 0 ∧ cv = 0) ∧ Below wr.heap.size wr Z) := hZ
   clear hZ e0 e1 d0 d1 d2 bY HEn HSh r0 r1 s0 hfb
   have HA : Hid (Calls Tryz.prog 63 #[.pointer (some ⟨k.pd, 0, none⟩), .int .i64 (z : Nat), .slice av nv cv] Z fun e w' => (∃ v, e = .returned v) ∧ Sv D W k { st with q := incU st.q, la := st.la.set z (incU st.q), zs := recZ st z l } c w') := by
    have hvZ := HSv.out.1.under HZ.out.2.2
    refine (append_of (z : Nat) av nv cv _ hvZ.dv hvZ.wf HZ.out.1 HZ.out.2.1 (by have h1 := HZ.out.1.1; have h2 := encB_len (incU st.q) (l.map itP) st.s.b; omega)).mono ?_
    rintro e w' ⟨rfl, hs⟩
    exact ⟨⟨_, rfl⟩, Sv.next HSv.out.2.1 (HSv.out.2.2.under HZ.out.2.2) (hvZ.dvstep hs (hvZ.wf.app _ _))⟩
   go_wp2_with (go_at_call 63; refine HA.out.mono ?_; rintro e W5 ⟨⟨v5, rfl⟩, sv5⟩)
   have H5 : Hid (Sv D W k { st with q := incU st.q, la := st.la.set z (incU st.q), zs := (wrY st z l 0).1, S := (wrY st z l 0).2 } (c + 0) W5) := by rw [wrY_zero]; exact sv5
   clear sv5 HA HZ HT HSv HV3 HQ
   clear hj
   go_loopw [71] (fun x wr => ∃ i : Nat, x = .int .i64 i ∧ i ≤ j ∧ Sv D W k { st with q := incU st.q, la := st.la.set z (incU st.q), zs := (wrY st z l i).1, S := (wrY st z l i).2 } (c + i) wr) (fun x _ => j - (intOf x).toNat)
   case atStart => exact ⟨0, rfl, Nat.zero_le _, H5.out⟩
   case round =>
    obtain ⟨i, rfl, hi, Di, hvi, hDi, hoi⟩ := hrel
    rcases Nat.lt_or_ge i j with hlt2 | hge2
    ·have hi' : (i : Int) < j := by omega
     have hwi : IntKind.i64.wrap ((i : Int) + 1) = (i : Int) + 1 := by rw [IntKind.wrap_i64]; omega
     obtain ⟨p, b, off, hp, rfl, hb, A1, L1, C1, hcl, hbin, hnil1, hL1, hX1, hfit⟩ := (H.out.2.1.out hoi (fun x hx => (H.out.2.2.1 x hx).1)).at X hlt2
     have x0 : wr.cell? ⟨b, off + i * 4, none⟩ = some (.int .u32 p.t) := hcl 0 _ rfl
     have x1 : wr.cell? ⟨b, off + i * 4 + 1, none⟩ = some (.int .u64 p.b) := hcl 1 _ rfl
     have x2 : wr.cell? ⟨b, off + i * 4 + 2, none⟩ = some (.bool p.x) := hcl 2 _ rfl
     have x3 : wr.cell? ⟨b, off + i * 4 + 3, none⟩ = some (.slice A1 L1 C1) := hcl 3 _ rfl
     obtain ⟨g, hg⟩ : ∃ g, g = wr.heap.size := ⟨_, rfl⟩
     have hbV : Below wr.heap.size wr (wr.alloc (.cells #[.int .u32 p.t, .int .u64 p.b, .bool p.x, .slice A1 L1 C1] 61)) := (Below.refl _ _).alloc (Nat.le_refl _) _
     have HV : Hid (StV Di (wr.alloc (.cells #[.int .u32 p.t, .int .u64 p.b, .bool p.x, .slice A1 L1 C1] 61)) k { st with q := incU st.q, la := st.la.set z (incU st.q), zs := (wrY st z l i).1, S := (wrY st z l i).2 } (c + i) ∧ (∀ x, Di x → D x ∨ W.heap.size ≤ x) ∧ Out (StO D k) W (wr.alloc (.cells #[.int .u32 p.t, .int .u64 p.b, .bool p.x, .slice A1 L1 C1] 61)) ∧ Blk (wr.alloc (.cells #[.int .u32 p.t, .int .u64 p.b, .bool p.x, .slice A1 L1 C1] 61)) g [.int .u32 p.t, .int .u64 p.b, .bool p.x, .slice A1 L1 C1] 61 ∧ BIn (wr.alloc (.cells #[.int .u32 p.t, .int .u64 p.b, .bool p.x, .slice A1 L1 C1] 61)) A1 L1 p.d ∧ (wr.alloc (.cells #[.int .u32 p.t, .int .u64 p.b, .bool p.x, .slice A1 L1 C1] 61)).heap.size = g + 1) := ⟨hvi.under hbV, hDi, hoi.under hbV, Blk.new' hg.symm rfl, hbin.below hbV, by simp [hg]⟩
     have HP : Hid (l[i]? = some p ∧ (A1 = none → L1 = 0 ∧ C1 = 0) ∧ L1 ≤ 10000 ∧ p.Fits ∧ g = wr.heap.size ∧ (∀ x, Di x → x < g) ∧ (∀ x, k.has x → x < g)) := ⟨hp, hnil1, hL1, hfit, hg, by rw [hg]; exact hvi.lt, by rw [hg]; exact hvi.kin⟩
     clear hcl hbin hnil1 hL1 hX1 hfit hp hb hvi hDi hoi hbV
     cases hx : p.x with
     | true =>
      rw [hx] at x2
      simp only [hx] at HV
      go_wp2_with fail
      rw [← hg]
      clear x0 x1 x2 x3 hg
      generalize World.alloc wr _ = V at HV ⊢
      have y0 : V.cell? ⟨g, 0, none⟩ = some (.int .u32 p.t) := HV.out.2.2.2.1.cell 0
      have y1 : V.cell? ⟨g, 1, none⟩ = some (.int .u64 p.b) := HV.out.2.2.2.1.cell 1
      obtain ⟨_, _, s2, _⟩ := HV.out.1.cells
      have HD : Hid (Calls Tryz.prog 72 #[.pointer (some ⟨k.pm, 0, none⟩), .int .u32 p.t, .int .u64 p.b] V.drew fun e w' => (∃ v, e = .returned v) ∧ Sv D W k { st with q := incU st.q, la := st.la.set z (incU st.q), zs := (wrY st z l (i + 1)).1, S := (wrY st z l (i + 1)).2 } (c + (i + 1)) w' ∧ w'.cell? ⟨k.ps, 2, none⟩ = some (.pointer (some ⟨k.pm, 0, none⟩)) ∧ w'.cell? ⟨g, 0, none⟩ = some (.int .u32 p.t) ∧ w'.cell? ⟨g, 1, none⟩ = some (.int .u64 p.b)) := by
       have hvd := HV.out.1.under (Below.refl _ _).drew
       refine (mDrop_of k.pm k.b1 k.b2 _ _ p.n V.drew hvd.mp ⟨HP.out.2.2.2.1.1, HP.out.2.2.2.1.2.1⟩).mono ?_
       rintro e w' ⟨rfl, h1, h2⟩
       have sv := hvd.mpstep h1 h2
       obtain ⟨D9, hv9, hD9, ho9⟩ := sv
       have bg := ho9.blk (HV.out.2.2.2.1.drew) (fun h => by rcases h with h | h; exact absurd (HP.out.2.2.2.2.2.1 g h) (by omega); exact absurd (HP.out.2.2.2.2.2.2 g h) (by omega))
       refine ⟨⟨_, rfl⟩, Sv.mono (c := c + i) ?_ (by omega), hv9.cells.2.2.1, bg.cell 0, bg.cell 1⟩
       rw [wrY_next HP.out.1]
       unfold oneP
       rw [if_pos hx]
       exact Sv.next HV.out.2.1 (HV.out.2.2.1.under (Below.refl _ _).drew) ⟨D9, hv9, hD9, ho9⟩
      clear hx
      go_region_held3 (fun Y => Y.cell? ⟨k.ps, 2, none⟩ = some (.pointer (some ⟨k.pm, 0, none⟩)) ∧ Y.cell? ⟨g, 0, none⟩ = some (.int .u32 p.t) ∧ Y.cell? ⟨g, 1, none⟩ = some (.int .u64 p.b)) (first | exact ⟨s2, y0, y1⟩ | exact ⟨t2, z0, z1⟩)
       (first | (go_simp; go_at_call 72; refine HD.out.mono ?_; rintro e V9 ⟨⟨v9, rfl⟩, sv9, t2, z0, z1⟩))
      all_goals (
       have H9 : Hid (Sv D W k { st with q := incU st.q, la := st.la.set z (incU st.q), zs := (wrY st z l (i + 1)).1, S := (wrY st z l (i + 1)).2 } (c + (i + 1)) V9) := sv9
       clear sv9 y0 y1 s2 t2 z0 z1
       go_wp2
       go_roundw
       case rel => exact ⟨i + 1, by simp, by omega, H9.out⟩
       case measure => simp [intOf]; omega)
     | false =>
      rw [hx] at x2
      simp only [hx] at HV
      go_wp2_with fail
      rw [← hg]
      clear x0 x1 x2 x3 hg
      generalize World.alloc wr _ = V at HV ⊢
      have y0 : V.cell? ⟨g, 0, none⟩ = some (.int .u32 p.t) := HV.out.2.2.2.1.cell 0
      have y1 : V.cell? ⟨g, 1, none⟩ = some (.int .u64 p.b) := HV.out.2.2.2.1.cell 1
      have y3 : V.cell? ⟨g, 3, none⟩ = some (.slice A1 L1 C1) := HV.out.2.2.2.1.cell 3
      obtain ⟨s0, _, s2, _⟩ := HV.out.1.cells
      obtain ⟨aa, haa⟩ : ∃ aa, aa = appA st.s (wrY st z l i).1 z p.d := ⟨_, rfl⟩
      have HAA : Hid (aa = appA st.s (wrY st z l i).1 z p.d) := haa
      clear haa
      have HAp : Hid (∀ Y, Below V.heap.size V Y → Calls Tryz.prog 63 #[.pointer (some ⟨k.pd, 0, none⟩), .int .i64 (z : Nat), .slice A1 L1 C1] Y fun e Z => ∃ ev, e = .returned (.tuple #[.agg #[.int .i64 aa.1, .int .i64 aa.2], .int .u16 ev]) ∧ (Sv D W k { st with q := incU st.q, la := st.la.set z (incU st.q), zs := appZ st.s (wrY st z l i).1 z p.d, S := (wrY st z l i).2 } (c + i) Z ∧ Blk Z g [.int .u32 p.t, .int .u64 p.b, .bool false, .slice A1 L1 C1] 61) ∧ (∀ g' L t, g + 1 ≤ g' → Blk Y g' L t → Blk Z g' L t) ∧ Z.cell? ⟨k.ps, 0, none⟩ = some (.pointer (some ⟨k.pd, 0, none⟩)) ∧ Z.cell? ⟨g, 3, none⟩ = some (.slice A1 L1 C1) ∧ (∀ o, (Z.alloc o).cell? ⟨k.ps, 0, none⟩ = some (.pointer (some ⟨k.pd, 0, none⟩))) ∧ (∀ o, (Z.alloc o).cell? ⟨g, 3, none⟩ = some (.slice A1 L1 C1)) ∧ (∀ g', g + 1 ≤ g' → g' < Y.heap.size → ∀ u1 u2, Sv D W k { st with q := incU st.q, la := st.la.set z (incU st.q), zs := appZ st.s (wrY st z l i).1 z p.d, S := (wrY st z l i).2 } (c + i) ((Z.setCell ⟨g', 0, none⟩ u1).setCell ⟨g', 1, none⟩ u2))) := fun Y hY => by
       have hvd := HV.out.1.under hY
       refine (append_of (z : Nat) A1 L1 C1 p.d hvd.dv hvd.wf (HV.out.2.2.2.2.1.below hY) HP.out.2.1 (by have := HP.out.2.2.1; omega)).mono ?_
       rintro e w' ⟨rfl, hs⟩
       have sv := hvd.dvstep hs (hvd.wf.app _ _)
       obtain ⟨D9, hv9, hD9, ho9⟩ := sv
       have hno : ∀ x, g ≤ x → ¬ StO Di k x := fun x hx h => by rcases h with h | h; exact absurd (HP.out.2.2.2.2.2.1 x h) (by omega); exact absurd (HP.out.2.2.2.2.2.2 x h) (by omega)
       have bg := ho9.blk (HV.out.2.2.2.1.below hY HV.out.2.2.2.1.lt) (hno g (Nat.le_refl _))
       exact ⟨_, by rw [HAA.out], ⟨Sv.next HV.out.2.1 (HV.out.2.2.1.under hY) ⟨D9, hv9, hD9, ho9⟩, bg⟩, fun g' L t hg' hb => ho9.blk hb (hno g' (by omega)), hv9.cells.1, bg.cell 3, fun o => (hv9.hp.alloc o).cell 0, fun o => (bg.alloc o).cell 3, fun g' h1 h2 u1 u2 => by
        have hn9 : ¬ StO D9 k g' := fun h => by
         rcases h with h | h
         ·rcases hD9 g' h with h | h
          ·exact absurd (HP.out.2.2.2.2.2.1 g' h) (by omega)
          ·omega
         ·exact absurd (HP.out.2.2.2.2.2.2 g' h) (by omega)
        have hWg : W.heap.size ≤ g' := by have e1 := HV.out.2.2.1.size; have e2 := HV.out.2.2.2.2.2; omega
        exact ⟨D9, (hv9.poke hn9 0 u1).poke hn9 1 u2, fun x hx => by
         rcases hD9 x hx with h | h
         ·exact HV.out.2.1 x h
         ·have e1 := HV.out.2.2.1.size; have e2 := hY.size; exact .inr (by omega), (((HV.out.2.2.1.under hY).trans ho9 (fun j hj => by
          rcases hj with hj | hj
          ·rcases HV.out.2.1 j hj with h | h
           ·exact .inl (.inl h)
           ·exact .inr h
          ·exact .inl (.inr hj))).setCell (p := ⟨g', 0, none⟩) (.inr hWg) u1).setCell (p := ⟨g', 1, none⟩) (.inr hWg) u2⟩⟩
      have HPut : Hid (∀ (V7 : World) (ga : Nat), g < ga → Sv D W k { st with q := incU st.q, la := st.la.set z (incU st.q), zs := appZ st.s (wrY st z l i).1 z p.d, S := (wrY st z l i).2 } (c + i) V7 → Blk V7 g [.int .u32 p.t, .int .u64 p.b, .bool false, .slice A1 L1 C1] 61 → Blk V7 ga [.int .i64 aa.1, .int .i64 aa.2] 55 → Calls Tryz.prog 66 #[.pointer (some ⟨k.pm, 0, none⟩), .agg #[.int .u32 p.t, .int .u64 p.b, .int .i64 aa.1, .int .i64 aa.2]] V7.drew fun e w' => (∃ v, e = .returned v) ∧ Sv D W k { st with q := incU st.q, la := st.la.set z (incU st.q), zs := (wrY st z l (i + 1)).1, S := (wrY st z l (i + 1)).2 } (c + (i + 1)) w' ∧ w'.cell? ⟨k.ps, 2, none⟩ = some (.pointer (some ⟨k.pm, 0, none⟩)) ∧ w'.cell? ⟨g, 0, none⟩ = some (.int .u32 p.t) ∧ w'.cell? ⟨g, 1, none⟩ = some (.int .u64 p.b) ∧ w'.cell? ⟨ga, 0, none⟩ = some (.int .i64 aa.1) ∧ w'.cell? ⟨ga, 1, none⟩ = some (.int .i64 aa.2)) := by
       intro V7 ga hga sv bp ba
       obtain ⟨D7, hv7, hD7, ho7⟩ := sv
       have hvd := hv7.under (Below.refl _ _).drew
       have hwi : z < (wrY st z l i).1.length := by have e1 := HV.out.1.wf.len; have e2 := H.out.1.wf.len; have := H.out.2.2.2.2; simp only at e1; omega
       refine (mPut_of k.pm k.b1 k.b2 _ _ (p.n, aa) V7.drew hvd.mp ⟨⟨HP.out.2.2.2.1.1, HP.out.2.2.2.1.2.1⟩, by rw [HAA.out]; exact appA_fits HV.out.1.wf hwi _⟩ (by have := H.out.2.2.2.1; omega)).mono ?_
       rintro e w' ⟨rfl, h1, h2⟩
       have sv := hvd.mpstep h1 h2
       have hno : ∀ x, g ≤ x → ¬ Two k.b1 k.b2 x := fun x hx h => by
        rcases h with h | h
        ·exact absurd (HP.out.2.2.2.2.2.2 x (by rw [h]; exact .inr (.inr (.inr (.inr (.inl rfl)))))) (by omega)
        ·exact absurd (HP.out.2.2.2.2.2.2 x (by rw [h]; exact .inr (.inr (.inr (.inr (.inr (.inl rfl))))))) (by omega)
       have bg := h2.blk bp.drew (hno g (Nat.le_refl _))
       have bga := h2.blk ba.drew (hno ga (by omega))
       obtain ⟨D9, hv9, hD9, ho9⟩ := sv
       refine ⟨⟨_, rfl⟩, Sv.mono (c := c + i + 1) ?_ (by omega), hv9.cells.2.2.1, bg.cell 0, bg.cell 1, bga.cell 0, bga.cell 1⟩
       rw [wrY_next HP.out.1]
       unfold oneP
       rw [if_neg (by rw [hx]; decide), ← HAA.out]
       exact Sv.next hD7 (ho7.under (Below.refl _ _).drew) ⟨D9, hv9, hD9, ho9⟩
      have hsz := HV.out.2.2.2.2.2
      have s0a : ∀ o, (V.alloc o).cell? ⟨k.ps, 0, none⟩ = some (.pointer (some ⟨k.pd, 0, none⟩)) := fun o => (HV.out.1.hp.alloc o).cell 0
      have y3a : ∀ o, (V.alloc o).cell? ⟨g, 3, none⟩ = some (.slice A1 L1 C1) := fun o => (HV.out.2.2.2.1.alloc o).cell 3
      go_region_law (first
       | (go_simp; go_at_call 63; refine (HAp.out _ (by first | exact (Below.refl _ _).drew | exact ((Below.refl _ _).alloc (Nat.le_refl _) _).drew | exact ((Below.refl _ _).alloc (Nat.le_refl _) _))).mono ?_; rintro e V6 ⟨ev, rfl, sv6, kp6, t0, z3, t0a, z3a, pk6⟩; try (have pA := pk6 (g + 1) (Nat.le_refl _) (by simp [hsz]); have bA := kp6 (g + 1) [.int .i64 0, .int .i64 0] 55 (Nat.le_refl _) (Blk.new' hsz rfl).drew; have m0 := bA.cell 0; have m1 := bA.cell 1; have m2 := bA.frozen 0; have m3 := bA.frozen 1; simp only [List.getElem?_cons_zero, List.getElem?_cons_succ] at m0 m1)))
      all_goals (
       first
       | (
        have P7 : Hid (g < g + 1 ∧ Sv D W k { st with q := incU st.q, la := st.la.set z (incU st.q), zs := appZ st.s (wrY st z l i).1 z p.d, S := (wrY st z l i).2 } (c + i) ((V6.setCell ⟨g + 1, 0, none⟩ (.int .i64 aa.1)).setCell ⟨g + 1, 1, none⟩ (.int .i64 aa.2)) ∧ Blk ((V6.setCell ⟨g + 1, 0, none⟩ (.int .i64 aa.1)).setCell ⟨g + 1, 1, none⟩ (.int .i64 aa.2)) g [.int .u32 p.t, .int .u64 p.b, .bool false, .slice A1 L1 C1] 61 ∧ Blk ((V6.setCell ⟨g + 1, 0, none⟩ (.int .i64 aa.1)).setCell ⟨g + 1, 1, none⟩ (.int .i64 aa.2)) (g + 1) [.int .i64 aa.1, .int .i64 aa.2] 55) := ⟨by omega, pA _ _, (sv6.2.set_other (a := ⟨g + 1, 0, none⟩) (by show g ≠ g + 1; omega) _).set_other (a := ⟨g + 1, 1, none⟩) (by show g ≠ g + 1; omega) _, (bA.set 0 _).set 1 _⟩
        generalize World.setCell (World.setCell V6 _ _) _ _ = V7 at P7 ⊢
        generalize g + 1 = ga at P7 ⊢)
       | (
        have P7 : Hid (g < V6.heap.size ∧ Sv D W k { st with q := incU st.q, la := st.la.set z (incU st.q), zs := appZ st.s (wrY st z l i).1 z p.d, S := (wrY st z l i).2 } (c + i) (V6.alloc (.cells #[.int .i64 aa.1, .int .i64 aa.2] 55)) ∧ Blk (V6.alloc (.cells #[.int .i64 aa.1, .int .i64 aa.2] 55)) g [.int .u32 p.t, .int .u64 p.b, .bool false, .slice A1 L1 C1] 61 ∧ Blk (V6.alloc (.cells #[.int .i64 aa.1, .int .i64 aa.2] 55)) V6.heap.size [.int .i64 aa.1, .int .i64 aa.2] 55) := ⟨sv6.2.lt, sv6.1.under ((Below.refl _ _).alloc (Nat.le_refl _) _), sv6.2.alloc _, Blk.new' rfl rfl⟩
        generalize World.alloc V6 _ = V7 at P7 ⊢
        generalize V6.heap.size = ga at P7 ⊢)
       have HC := HPut.out V7 ga P7.out.1 P7.out.2.1 P7.out.2.2.1 P7.out.2.2.2
       have y0 : V7.cell? ⟨g, 0, none⟩ = some (.int .u32 p.t) := P7.out.2.2.1.cell 0
       have y1 : V7.cell? ⟨g, 1, none⟩ = some (.int .u64 p.b) := P7.out.2.2.1.cell 1
       have a0 : V7.cell? ⟨ga, 0, none⟩ = some (.int .i64 aa.1) := P7.out.2.2.2.cell 0
       have a1 : V7.cell? ⟨ga, 1, none⟩ = some (.int .i64 aa.2) := P7.out.2.2.2.cell 1
       obtain ⟨D7, hv7, _, _⟩ := P7.out.2.1
       obtain ⟨_, _, s2, _⟩ := hv7.cells
       clear hv7 sv6 kp6 t0 z3 t0a z3a pk6 s0 y3 s0a y3a hsz HAp HPut
       try clear pA bA m0 m1 m2 m3
       go_wp2_with fail
       go_region_held3 (fun Y => Y.cell? ⟨k.ps, 2, none⟩ = some (.pointer (some ⟨k.pm, 0, none⟩)) ∧ Y.cell? ⟨g, 0, none⟩ = some (.int .u32 p.t) ∧ Y.cell? ⟨g, 1, none⟩ = some (.int .u64 p.b) ∧ Y.cell? ⟨ga, 0, none⟩ = some (.int .i64 aa.1) ∧ Y.cell? ⟨ga, 1, none⟩ = some (.int .i64 aa.2)) (first | exact ⟨s2, y0, y1, a0, a1⟩ | exact ⟨t2, z0, z1, b0, b1⟩)
        (first | (go_simp; go_at_call 66; refine HC.mono ?_; rintro e V9 ⟨⟨v9, rfl⟩, sv9, t2, z0, z1, b0, b1⟩))
       have H9 : Hid (Sv D W k { st with q := incU st.q, la := st.la.set z (incU st.q), zs := (wrY st z l (i + 1)).1, S := (wrY st z l (i + 1)).2 } (c + (i + 1)) V9) := sv9
       clear sv9 y0 y1 s2 t2 z0 z1 a0 a1 b0 b1 HC
       go_wp2
       go_roundw
       case rel => exact ⟨i + 1, by simp, by omega, H9.out⟩
       case measure => simp [intOf]; omega)
    ·obtain rfl : i = j := by omega
     have HE : Hid (StV Di wr k { st with q := incU st.q, la := st.la.set z (incU st.q), zs := (wrY st z l i).1, S := (wrY st z l i).2 } (c + i) ∧ (∀ x, Di x → D x ∨ W.heap.size ≤ x) ∧ Out (StO D k) W wr ∧ l.length = i) := ⟨hvi, hDi, hoi, H.out.2.1.1⟩
     obtain ⟨R, hR⟩ : ∃ R, R = roomZ st.s (wrY st z l i).1 z := ⟨_, rfl⟩
     have HM : Hid (R = roomZ st.s (wrY st z l i).1 z ∧ writeM st z l = { st with q := incU st.q, la := st.la.set z (incU st.q), zs := (wrY st z l i).1, S := (wrY st z l i).2, L := fullL st.s (wrY st z l i).1 st.L z }) := ⟨hR, by unfold writeM; rw [H.out.2.1.1]; simp⟩
     clear hvi hDi hoi hR
     have HRo : Hid (Calls Tryz.prog 33 #[.pointer (some ⟨k.ps, 0, none⟩), .int .i64 (z : Nat)] wr fun e w' => e = .returned (.int .i64 R) ∧ StV Di w' k { st with q := incU st.q, la := st.la.set z (incU st.q), zs := (wrY st z l i).1, S := (wrY st z l i).2 } (c + i) ∧ Below wr.heap.size wr w') := by
      refine (sroom_of (z : Nat) HE.out.1).mono ?_
      rintro e w' ⟨rfl, hb⟩
      exact ⟨by rw [HM.out.1], HE.out.1.under hb, hb⟩
     by_cases hR0 : R = 0
     ·subst hR0
      go_wp2_with (first
       | (go_at_call 33; refine HRo.out.mono ?_; rintro e V6 ⟨rfl, hv6, hb6⟩; obtain ⟨_, s1, _⟩ := hv6.cells; have H6 := (gFill_of k.pg k.gg st.s.r st.L z V6 hv6.sg).mono (fun e w' (hh : TurnGot V6 k.pg k.gg st.s.r st.L z 2 3 e w') => (⟨⟨_, hh.1⟩, Sv.next HE.out.2.1 (HE.out.2.2.1.under hb6) (hv6.sgstep hh.2.1 hh.2.2 (turnZ_length _ _ _ _))⟩ : (∃ v, e = .returned v) ∧ Sv D W k { st with q := incU st.q, la := st.la.set z (incU st.q), zs := (wrY st z l i).1, S := (wrY st z l i).2, L := turnZ st.L z 2 3 } (c + i) w')); clear hv6 hb6)
       | (go_at_call 69; refine H6.mono ?_; rintro e V7 ⟨⟨v7, rfl⟩, sv7⟩))
      first | go_end0 | refine bodyPost_ret (results_none rfl _ _ _) rfl ?_
      refine ⟨rfl, ?_⟩
      rw [HM.out.2]
      unfold fullL
      rw [if_pos HM.out.1.symm]
      exact sv7
     ·have hR1 : (R == 0) = false := by simp [hR0]
      go_wp2_with (go_at_call 33; refine HRo.out.mono ?_; rintro e V6 ⟨rfl, hv6, hb6⟩)
      first | go_end0 | refine bodyPost_ret (results_none rfl _ _ _) rfl ?_
      refine ⟨rfl, ?_⟩
      rw [HM.out.2]
      unfold fullL
      rw [if_neg (by rw [← HM.out.1]; exact hR0)]
      exact ⟨Di, hv6, HE.out.2.1, HE.out.2.2.1.under hb6⟩
end
end
end Go.Proofs.YtcdnjeiamihhbabGreat
