/- P40 -/
import Derived.Test.YtcdnjeiamihhbabGreatP38
import Derived.Test.YtcdnjeiamihhbabGreatP37
set_option linter.unusedVariables false
set_option maxRecDepth 4000
namespace Go.Proofs.YtcdnjeiamihhbabGreat
open Go.RowKit
section
structure Inv (st : St) : Prop where
 wf : Wf st.s st.zs
 plc : Plc st.zs st.S
 len : st.L.length = st.zs.length
theorem itP_right {s : Sh} {p : Pt} (hr : RightS s) (ho : p.x = true ∨ (p.d.length : Int) = s.b) : RightI (itP p) := by
 unfold itP
 split
 ·exact .inr ⟨rfl, rfl, rfl⟩
 ·rename_i hx
  have he : endsN p.d ≤ p.d.length := (ends_at p.d).1
  have hb := (pow_bounds (show s.b ∈ PowR from hr.2.2.2.2.1)).2
  have := ho.resolve_left hx
  exact .inl ⟨rfl, by show ((endsN p.d : Nat) : Int) ≤ 4096; omega⟩
theorem rec_size {s : Sh} {l : List Pt} {q : Int} (hr : RightS s) (ho : okP s l) (h0 : 0 < l.length) (h1 : (l.length : Int) ≤ roomI s.b) : ((encB q (l.map itP) s.b).length : Int) = s.b := by
 have hg : GoodR (l.map itP) s.b := ⟨by simpa using h0, by simpa using h1, fun x hx => by
  obtain ⟨p, hp, rfl⟩ := List.mem_map.1 hx
  exact itP_right hr (ho p hp)⟩
 have hb := hg.bounds
 simp only [List.length_map] at hb
 unfold encB
 rw [if_pos hg, enc_length (by simp only [List.length_map]; omega)]
 omega
theorem appZ_length (s : Sh) (zs : List Zn) (z : Int) (E : List Int) : (appZ s zs z E).length = zs.length := by
 unfold appZ; split
 ·split
  ·rfl
  ·simp
 ·rfl
theorem not_full {s : Sh} {zs : List Zn} {z : Int} (h : 1 ≤ roomZ s zs z) : ¬ appFull s zs z := by
 unfold appFull; unfold roomZ at h; omega
section
variable {st : St} {z : Nat} {l : List Pt}
theorem wr_mem (hi : Inv st) (hz : z < st.zs.length) (hl0 : 0 < l.length) (hl1 : (l.length : Int) ≤ roomI st.s.b) (ho : okP st.s l) (hf : ∀ p ∈ l, p.Fits) (hr : ((datN l : Nat) : Int) + 1 ≤ roomZ st.s st.zs z) :
  ∀ j, j ≤ l.length → Wf st.s (wrY st z l j).1 ∧ Plc (wrY st z l j).1 (wrY st z l j).2 ∧ memS (wrY st z l j).1 (wrY st z l j).2 = (l.take j).foldl updP (memT st) ∧ (atZ (wrY st z l j).1 z).1.length = (atZ st.zs z).1.length + 1 + datN (l.take j) ∧ (wrY st z l j).1.length = st.zs.length := by
 intro j
 induction j with
 | zero =>
  intro _
  have hsz := rec_size (q := incU st.q) hi.wf.right ho hl0 hl1
  have hok : appOk st.s st.zs z (encB (incU st.q) (l.map itP) st.s.b) := ⟨by omega, by omega, hsz⟩
  obtain ⟨_, _, _, hn⟩ := app_new hok (not_full (by omega))
  obtain ⟨p1, p2⟩ := hi.plc.app (s := st.s) z (encB (incU st.q) (l.map itP) st.s.b)
  rw [wrY_zero]
  refine ⟨hi.wf.app _ _, p1, p2, ?_, appZ_length _ _ _ _⟩
  show (atZ (recZ st z l) z).1.length = _
  unfold recZ
  rw [hn]
  simp [datN]
 | succ j ih =>
  intro hj
  obtain ⟨w1, w2, w3, w4, w5⟩ := ih (by omega)
  have hp : l[j]? = some l[j] := by simp
  have hm := List.mem_of_getElem? hp
  generalize l[j] = p at hp hm
  have ht : l.take (j + 1) = l.take j ++ [p] := take_snoc hp
  rw [wrY_next hp, ht, List.foldl_append]
  unfold oneP
  by_cases hx : p.x = true
  ·rw [if_pos hx]
   obtain ⟨d1, d2⟩ := w2.drop hx
   refine ⟨w1, d1, by rw [d2, w3]; rfl, ?_, w5⟩
   rw [w4]
   simp [datN, List.filter_append, hx]
  ·rw [if_neg hx]
   have hx' : p.x = false := by simpa using hx
   have hd : (datN (l.take j ++ [p]) : Int) ≤ datN l := by
    have : datN (l.take (j + 1)) ≤ datN l := by
     unfold datN
     have := ((List.take_sublist (j + 1) l).filter (fun p => !p.x)).length_le
     exact this
    rw [ht] at this
    omega
   have hd2 : datN (l.take j ++ [p]) = datN (l.take j) + 1 := by simp [datN, List.filter_append, hx']
   have hok : appOk st.s (wrY st z l j).1 z p.d := ⟨by omega, by rw [w5]; omega, (ho p hm).resolve_left hx⟩
   have hnf : ¬ appFull st.s (wrY st z l j).1 z := not_full (by unfold roomZ at hr ⊢; rw [w4]; omega)
   obtain ⟨_, _, _, hn⟩ := app_new hok hnf
   obtain ⟨d1, d2⟩ := w2.put hx' hok hnf ⟨⟨(hf p hm).1, (hf p hm).2.1⟩, appA_fits w1 (by rw [w5]; exact hz) _⟩
   refine ⟨w1.app _ _, d1, by rw [d2, w3]; rfl, ?_, by rw [appZ_length]; exact w5⟩
   show (atZ (appZ st.s (wrY st z l j).1 z p.d) z).1.length = _
   rw [hn, w4, hd2]
   omega
theorem write_inv (hi : Inv st) (hz : z < st.zs.length) (hl0 : 0 < l.length) (hl1 : (l.length : Int) ≤ roomI st.s.b) (ho : okP st.s l) (hf : ∀ p ∈ l, p.Fits) (hr : ((datN l : Nat) : Int) + 1 ≤ roomZ st.s st.zs z) :
  Inv (writeM st z l) ∧ memT (writeM st z l) = l.foldl updP (memT st) := by
 obtain ⟨w1, w2, w3, w4, w5⟩ := wr_mem hi hz hl0 hl1 ho hf hr l.length (Nat.le_refl _)
 rw [List.take_length] at w3
 refine ⟨⟨w1, w2, ?_⟩, w3⟩
 show (fullL st.s (wrY st z l l.length).1 st.L z).length = (wrY st z l l.length).1.length
 rw [w5, ← hi.len]
 unfold fullL
 split
 ·exact turnZ_length _ _ _ _
 ·rfl
end
theorem roomI_nat {s : Sh} (hr : RightS s) : 2 ≤ roomI s.b ∧ ((roomI s.b).toNat : Int) = roomI s.b := by
 have hb : s.b ∈ PowR := hr.2.2.2.2.1
 have := pow_bounds hb
 have e : roomI s.b = (s.b - 19) / 19 := by unfold roomI; rw [if_pos hb]
 omega
/-- What Put makes of a store. -/
theorem putFmem : ∀ (f : Nat) (st : St) (l : List Pt), Inv st → okP st.s l → (∀ p ∈ l, p.Fits) → l.length ≤ f →
  ∃ m r : Nat, m ≤ l.length ∧ r ≤ m ∧ Inv (putF f st l).2 ∧ (putF f st l).2.s = st.s ∧ memT (putF f st l).2 = (l.take m).foldl updP (memT st) ∧ (((putF f st l).1 = 0 ∧ m = l.length ∧ (0 < l.length → 0 < r)) ∨ (putF f st l).1 = 160) ∧ ((putF f st l).2.q = (st.q + r) % 18446744073709551616 ∨ r = 0 ∧ (putF f st l).2.q = st.q)
 | 0, st, l, hi, ho, hf, hl => by
  have : l = [] := List.length_eq_zero_iff.1 (by omega)
  subst this
  exact ⟨0, 0, by simp, by simp, hi, rfl, rfl, .inl ⟨rfl, rfl, by simp⟩, .inr ⟨rfl, rfl⟩⟩
 | f + 1, st, [], hi, ho, hf, hl => ⟨0, 0, by simp, by simp, hi, rfl, rfl, .inl ⟨rfl, rfl, by simp⟩, .inr ⟨rfl, rfl⟩⟩
 | f + 1, st, p :: l, hi, ho, hf, hl => by
  have hr := hi.wf.right
  unfold putF
  by_cases hb : (openZ st.s st.zs (needP p) st.L).2.1 = true
  ·rw [if_pos hb]
   obtain ⟨i, h1, h2, h3, h4⟩ := openZ_in st.s st.zs (needP p) _ st.L rfl hb
   have hlen := openZ_length st.s st.zs (needP p) _ st.L rfl
   rw [h1]
   obtain ⟨n, hn⟩ : ∃ n, n = frontN st i (p :: l) := ⟨_, rfl⟩
   rw [← hn]
   have hpos : 0 < n := by rw [hn]; exact front_pos hr h4
   have hle := frN_le (p :: l) (roomI st.s.b).toNat (roomZ st.s st.zs i - 1)
   have hdat := frN_dat (p :: l) (roomI st.s.b).toNat (roomZ st.s st.zs i - 1)
   rw [show frN (p :: l) (roomI st.s.b).toNat (roomZ st.s st.zs i - 1) = n from hn.symm] at hle hdat
   have hroom : 1 ≤ roomZ st.s st.zs i := by have : 1 ≤ needP p := by unfold needP; split <;> omega
                                             omega
   have hR := roomI_nat hr
   have hi1 : Inv { st with L := (openZ st.s st.zs (needP p) st.L).2.2 } := ⟨hi.wf, hi.plc, by show (openZ st.s st.zs (needP p) st.L).2.2.length = _; rw [hlen]; exact hi.len⟩
   have hlt : ((p :: l).take n).length = n := by rw [List.length_take]; omega
   obtain ⟨w1, w2⟩ := write_inv (z := i) (l := (p :: l).take n) hi1 (by show i < st.zs.length; rw [← hi.len]; exact h2) (by omega) (by show (((p :: l).take n).length : Int) ≤ roomI st.s.b; omega) (fun x hx => ho x (List.mem_of_mem_take hx)) (fun x hx => hf x (List.mem_of_mem_take hx)) (by show _ ≤ roomZ st.s st.zs i; omega)
   obtain ⟨m, r, k1, k2, k3, k4, k5, k6, k7⟩ := putFmem f (writeM { st with L := (openZ st.s st.zs (needP p) st.L).2.2 } i ((p :: l).take n)) ((p :: l).drop n) w1 (fun x hx => ho x (List.mem_of_mem_drop hx)) (fun x hx => hf x (List.mem_of_mem_drop hx)) (by rw [List.length_drop]; simp only [List.length_cons] at hl ⊢; omega)
   have hdl : ((p :: l).drop n).length = (p :: l).length - n := List.length_drop
   refine ⟨n + m, r + 1, by omega, by omega, k3, k4, ?_, ?_, ?_⟩
   ·rw [k5, w2]
    rw [List.take_add, List.foldl_append]
    rfl
   ·rcases k6 with ⟨e1, e2, e3⟩ | e1
    ·exact .inl ⟨e1, by omega, fun _ => by omega⟩
    ·exact .inr e1
   ·have hq : (writeM { st with L := (openZ st.s st.zs (needP p) st.L).2.2 } i ((p :: l).take n)).q = incU st.q := rfl
    rw [hq] at k7
    unfold incU at k7
    left
    rcases k7 with k7 | ⟨k8, k7⟩
    ·rw [k7]; push_cast; omega
    ·rw [k7]; subst k8; simp
  ·rw [if_neg hb]
   have hlen := openZ_length st.s st.zs (needP p) _ st.L rfl
   exact ⟨0, 0, Nat.zero_le _, Nat.zero_le _, ⟨hi.wf, hi.plc, by show (openZ st.s st.zs (needP p) st.L).2.2.length = _; rw [hlen]; exact hi.len⟩, rfl, rfl, .inr rfl, .inr ⟨rfl, rfl⟩⟩
end
section
section
variable {D : Nat → Prop} {W : World} {k : Bs} {st : St} {c : Nat}
def lenOf : Value → Nat
 | .slice _ m _ => m
 | _ => 0
theorem sstep_of (h : StV D W k st c) (a : Option Addr) (m cc : Nat) (p : Pt) (l : List Pt) (X : Nat → Prop) (hl : PtsIn X W a m (p :: l)) (hcc : m ≤ cc) (hX : ∀ x, X x → ¬ StO D k x ∧ x < W.heap.size) (hc : c + m < 100000) :
  Calls Tryz.prog 29 #[.pointer (some ⟨k.ps, 0, none⟩), .int .i64 (needP p)] W fun e w3 => e = .returned (.tuple #[.int .i64 (openZ st.s st.zs (needP p) st.L).1, .bool (openZ st.s st.zs (needP p) st.L).2.1]) ∧ Sv D W k { st with L := (openZ st.s st.zs (needP p) st.L).2.2 } c w3 ∧
   ((openZ st.s st.zs (needP p) st.L).2.1 = true → Calls Tryz.prog 33 #[.pointer (some ⟨k.ps, 0, none⟩), .int .i64 (openZ st.s st.zs (needP p) st.L).1] w3 fun e w4 => e = .returned (.int .i64 (roomZ st.s st.zs (openZ st.s st.zs (needP p) st.L).1)) ∧
    Calls Tryz.prog 31 #[.slice a m cc, .int .i64 (roomI st.s.b), .int .i64 (roomZ st.s st.zs (openZ st.s st.zs (needP p) st.L).1 - 1)] w4 fun e w5 => e = .returned (.slice a (frontN st (openZ st.s st.zs (needP p) st.L).1 (p :: l)) cc) ∧
     Calls Tryz.prog 34 #[.pointer (some ⟨k.ps, 0, none⟩), .int .i64 (openZ st.s st.zs (needP p) st.L).1, .slice a (frontN st (openZ st.s st.zs (needP p) st.L).1 (p :: l)) cc] w5 fun e w6 => e = .returned (.tuple #[]) ∧ Sv D W k (writeM { st with L := (openZ st.s st.zs (needP p) st.L).2.2 } (openZ st.s st.zs (needP p) st.L).1 ((p :: l).take (frontN st (openZ st.s st.zs (needP p) st.L).1 (p :: l)))) (c + frontN st (openZ st.s st.zs (needP p) st.L).1 (p :: l)) w6) := by
 refine (open_of (needP p) h).mono ?_
 rintro e w3 ⟨rfl, sv3⟩
 refine ⟨rfl, sv3, fun hb => ?_⟩
 obtain ⟨i, h1, h2, h3, h4⟩ := openZ_in st.s st.zs (needP p) _ st.L rfl hb
 rw [h1]
 obtain ⟨D3, hv3, hD3, ho3⟩ := sv3
 refine (sroom_of (i : Nat) hv3).mono ?_
 rintro e w4 ⟨rfl, b4⟩
 have hR := roomI_nat h.wf.right
 have hrl := room_le st.s.b
 have hat := h.wf.at_le i
 have hzb := h.wf.right.2.2.2.1
 have hr0 : roomZ st.s st.zs i ≤ 4096 := by unfold roomZ; omega
 have hr1 : 1 ≤ roomZ st.s st.zs i := by have : 1 ≤ needP p := by unfold needP; split <;> omega
                                         omega
 refine ⟨rfl, ?_⟩
 have ho4 := ho3.under b4
 have hl4 := hl.out ho4 (fun x hx => (hX x hx).1)
 rw [← hR.2]
 refine (front_of a m cc (p :: l) X (roomI st.s.b).toNat (roomZ st.s st.zs i - 1) hl4 hcc (by omega) ⟨by omega, by omega⟩).mono ?_
 rintro e w5 ⟨rfl, b5⟩
 refine ⟨rfl, ?_⟩
 have hv5 := (hv3.under b4).under b5
 have hle := (frN_le (p :: l) (roomI st.s.b).toNat (roomZ st.s st.zs i - 1)).1
 have hlm := hl.1
 refine (write_of i hv5 (by show i < st.zs.length; rw [← h.len.1]; exact h2) a (frontN st i (p :: l)) cc ((p :: l).take (frontN st i (p :: l))) X ((hl4.below b5).front _ (by rw [← hlm]; exact hle)) (fun x hx => ⟨fun hs => ?_, ?_⟩) (by have : frontN st i (p :: l) ≤ m := (by rw [← hlm]; exact hle); omega)).mono ?_
 ·rcases hs with hs | hs
  ·rcases hD3 x hs with h | h
   ·exact (hX x hx).1 (.inl h)
   ·have := (hX x hx).2; omega
  ·exact (hX x hx).1 (.inr hs)
 ·have := (hX x hx).2; have := ho4.size; have := b5.size; omega
 ·rintro e w6 ⟨rfl, sv6⟩
  exact ⟨rfl, Sv.next hD3 (ho4.under b5) sv6⟩
set_option maxHeartbeats 4000000 in
theorem sput_of (h : StV D W k st c) (a : Option Addr) (n cc : Nat) (l : List Pt) (X : Nat → Prop) (hl : PtsIn X W a n l) (hcc : n ≤ cc) (hX : ∀ x, X x → ¬ StO D k x ∧ x < W.heap.size) (hc : c + n < 100000) :
  Calls Tryz.prog 8 #[.pointer (some ⟨k.ps, 0, none⟩), .slice a n cc] W fun e w' => e = .returned (.int .u16 (putM st l).1) ∧ Sv D W k (putM st l).2 (c + n) w' := by
 obtain ⟨s0, _⟩ := h.cells
 have H : Hid (StV D W k st c ∧ PtsIn X W a n l ∧ (∀ x, X x → ¬ StO D k x ∧ x < W.heap.size) ∧ c + n < 100000) := ⟨h, hl, hX, hc⟩
 have hn1 := hl.2.1
 have hfb := Tryz.shape_b (.int .i64 st.s.z) (.int .i64 st.s.zb) (.int .i64 st.s.b) (.int .i64 st.s.r)
 have HSh : Hid (Calls Tryz.prog 28 #[.pointer (some ⟨k.pd, 0, none⟩)] W fun e w' => e = .returned (.agg #[.int .i64 st.s.z, .int .i64 st.s.zb, .int .i64 st.s.b, .int .i64 st.s.r]) ∧ Below W.heap.size W w') := dshape_of h.dv
 clear h hl hX hc
 go_enter Tryz.func8, Tryz.ntmps8
 go_wp2_with (go_at_call 28; refine HSh.out.mono ?_; rintro e W1 ⟨rfl, hb1⟩)
 clear s0 hfb HSh
 have HB1 : Hid (Below W.heap.size W W1) := hb1
 clear hb1
 go_loopw [20] (fun x wr => ∃ j : Nat, x = .int .i64 j ∧ j ≤ n ∧ Below W.heap.size W wr ∧ ∀ i p, i < j → l[i]? = some p → p.x = true ∨ (p.d.length : Int) = st.s.b) (fun x _ => n - (intOf x).toNat)
 case atStart => exact ⟨0, rfl, Nat.zero_le _, HB1.out, fun i p hi => by omega⟩
 case round =>
  obtain ⟨j, rfl, hj, hb, hok⟩ := hrel
  rcases Nat.lt_or_ge j n with hlt | hge
  ·have hj' : (j : Int) < n := by omega
   have hwj : IntKind.i64.wrap ((j : Int) + 1) = (j : Int) + 1 := by rw [IntKind.wrap_i64]; omega
   obtain ⟨p, b, off, hp, rfl, hbx, A1, L1, C1, hcl, hbin, _⟩ := (H.out.2.1.below hb).at X hlt
   have x0 : wr.cell? ⟨b, off + j * 4, none⟩ = some (.int .u32 p.t) := hcl 0 _ rfl
   have x1 : wr.cell? ⟨b, off + j * 4 + 1, none⟩ = some (.int .u64 p.b) := hcl 1 _ rfl
   have x2 : wr.cell? ⟨b, off + j * 4 + 2, none⟩ = some (.bool p.x) := hcl 2 _ rfl
   have x3 : wr.cell? ⟨b, off + j * 4 + 3, none⟩ = some (.slice A1 L1 C1) := hcl 3 _ rfl
   have hbV : ∀ o, Below W.heap.size W (wr.alloc o) := fun o => hb.alloc hb.size o
   have hL : p.d.length = L1 := hbin.1
   have HN : Hid (∀ i q, i < j → l[i]? = some q → q.x = true ∨ (q.d.length : Int) = st.s.b) := hok
   have HBV : Hid (∀ o, Below W.heap.size W (wr.alloc o)) := hbV
   have HP : Hid (l[j]? = some p ∧ p.d.length = L1) := ⟨hp, hL⟩
   clear hcl hbin hbV hp hok hb hL
   cases hx : p.x with
   | true =>
    rw [hx] at x2
    go_wp2
    go_roundw
    case rel => exact ⟨j + 1, by simp, by omega, HBV.out _, fun i q hi hq => by
     rcases Nat.lt_or_ge i j with h | h
     ·exact HN.out i q h hq
     ·obtain rfl : i = j := by omega
      rw [HP.out.1] at hq
      cases hq
      exact .inl hx⟩
    case measure => simp [intOf]; omega
   | false =>
    rw [hx] at x2
    by_cases hLb : (L1 : Int) = st.s.b
    ·have hLn : ((L1 : Int) != st.s.b) = false := by simp [hLb]
     go_wp2
     go_roundw
     case rel => exact ⟨j + 1, by simp, by omega, HBV.out _, fun i q hi hq => by
      rcases Nat.lt_or_ge i j with h | h
      ·exact HN.out i q h hq
      ·obtain rfl : i = j := by omega
       rw [HP.out.1] at hq
       cases hq
       exact .inr (by rw [HP.out.2]; exact hLb)⟩
     case measure => simp [intOf]; omega
    ·have hLn : ((L1 : Int) != st.s.b) = true := by simp [hLb]
     have HM : Hid (putM st l = (1, st)) := by
      show _ = _
      unfold putM
      rw [if_neg (fun ho => by
       have := ho p (List.mem_of_getElem? HP.out.1)
       rw [hx, HP.out.2] at this
       exact hLb (this.resolve_left (by decide)))]
     clear hLb
     go_wp2
     go_ret
     rw [HM.out]
     exact ⟨rfl, ((Sv.start H.out.1).under (HBV.out _)).mono (by omega)⟩
  ·obtain rfl : j = n := by omega
   have HO : Hid (okP st.s l ∧ Below W.heap.size W wr) := ⟨fun p hp => by
    obtain ⟨i, hi⟩ := List.getElem?_of_mem hp
    exact hok i p (by have := (List.getElem?_eq_some_iff.1 hi).1; rw [H.out.2.1.1] at this; exact this) hi, hb⟩
   clear hok hb
   go_wp2_with fail
   go_loopw [8] (fun v wr => ∃ (l' : List Pt) (a' : Option Addr) (m cc' f : Nat) (st' : St) (c' : Nat), v = .slice a' m cc' ∧ m ≤ cc' ∧ PtsIn X W a' m l' ∧ st'.s = st.s ∧ l'.length ≤ f ∧ c' + m ≤ c + j ∧ Sv D W k st' c' wr ∧ putF f st' l' = putF l.length st l) (fun v _ => lenOf v)
   case atStart => exact ⟨l, a, j, cc, l.length, st, c, rfl, hcc, H.out.2.1, rfl, Nat.le_refl _, Nat.le_refl _, (Sv.start H.out.1).under HO.out.2, rfl⟩
   case round =>
    obtain ⟨l', a', m, cc', f, st', c', rfl, hmc, hpts, hss, hlf, hcm, ⟨D', hv, hD, ho⟩, hput⟩ := hrel
    have HM : Hid (putM st l = putF f st' l') := by show _ = _; unfold putM; rw [if_pos HO.out.1, hput]
    cases l' with
    | nil =>
     have hm0 : m = 0 := hpts.1.symm
     subst hm0
     have HS : Hid (Sv D W k st' (c + j) wr) := Sv.mono ⟨D', hv, hD, ho⟩ (by omega)
     clear hv hD ho hput hpts
     go_wp2
     go_ret
     rw [HM.out, putFnil]
     exact ⟨rfl, HS.out⟩
    | cons p r =>
     obtain ⟨f, rfl⟩ : ∃ f', f = f' + 1 := ⟨f - 1, by simp only [List.length_cons] at hlf; omega⟩
     have hm1 : m = r.length + 1 := hpts.1.symm
     have hm0 : 0 < m := by omega
     have hm0' : (0 : Int) < m := by omega
     have hpw := hpts.out ho (fun x hx => (H.out.2.2.1 x hx).1)
     obtain ⟨p', b, off, hp, rfl, hbx, A1, L1, C1, hcl, _⟩ := hpw.at X hm0
     simp only [List.getElem?_cons_zero, Option.some.injEq] at hp
     subst hp
     have x0 : wr.cell? ⟨b, off, none⟩ = some (.int .u32 p.t) := by simpa using hcl 0 _ rfl
     have x1 : wr.cell? ⟨b, off + 1, none⟩ = some (.int .u64 p.b) := by simpa using hcl 1 _ rfl
     have x2 : wr.cell? ⟨b, off + 2, none⟩ = some (.bool p.x) := by simpa using hcl 2 _ rfl
     have x3 : wr.cell? ⟨b, off + 3, none⟩ = some (.slice A1 L1 C1) := by simpa using hcl 3 _ rfl
     have hX' : ∀ w', Below wr.heap.size wr w' → ∀ x, X x → ¬ StO D' k x ∧ x < w'.heap.size := fun w' hb x hx => ⟨fun hs => by
      rcases hs with hs | hs
      ·rcases hD x hs with h | h
       ·exact (H.out.2.2.1 x hx).1 (.inl h)
       ·have := (H.out.2.2.1 x hx).2; omega
      ·exact (H.out.2.2.1 x hx).1 (.inr hs), by have := (H.out.2.2.1 x hx).2; have := ho.size; have := hb.size; omega⟩
     have HNe : Hid (Calls Tryz.prog 30 #[.agg #[.int .u32 p.t, .int .u64 p.b, .bool p.x, .slice A1 L1 C1]] wr fun e w' => e = .returned (.int .i64 (needP p)) ∧ Below wr.heap.size wr w') := need_of p _ wr
     have HSt : Hid (∀ w', Below wr.heap.size wr w' → _) := fun w' hb => sstep_of (hv.under hb) (some ⟨b, off, none⟩) m cc' p r X (hpw.below hb) hmc (hX' w' hb) (by have := H.out.2.2.2; omega)
     have HSv : Hid ((∀ x, D' x → D x ∨ W.heap.size ≤ x) ∧ (∀ w', Below wr.heap.size wr w' → Out (StO D k) W w')) := ⟨hD, fun w' hb => ho.under hb⟩
     have HP : Hid (PtsIn X W (some ⟨b, off, none⟩) m (p :: r)) := hpts
     have hbs : st'.s.b = st.s.b := by rw [hss]
     have HR : Hid (RightS st'.s) := hv.wf.right
     have HF : Hid (putF (f + 1) st' (p :: r) = if (openZ st'.s st'.zs (needP p) st'.L).2.1 = true then putF f (writeM { st' with L := (openZ st'.s st'.zs (needP p) st'.L).2.2 } (openZ st'.s st'.zs (needP p) st'.L).1 ((p :: r).take (frontN st' (openZ st'.s st'.zs (needP p) st'.L).1 (p :: r)))) ((p :: r).drop (frontN st' (openZ st'.s st'.zs (needP p) st'.L).1 (p :: r))) else (160, { st' with L := (openZ st'.s st'.zs (needP p) st'.L).2.2 })) := rfl
     have HOI : Hid ((openZ st'.s st'.zs (needP p) st'.L).2.1 = true → 0 < frontN st' (openZ st'.s st'.zs (needP p) st'.L).1 (p :: r) ∧ frontN st' (openZ st'.s st'.zs (needP p) st'.L).1 (p :: r) ≤ m ∧ roomZ st'.s st'.zs (openZ st'.s st'.zs (needP p) st'.L).1 ≤ 4096 ∧ 1 ≤ roomZ st'.s st'.zs (openZ st'.s st'.zs (needP p) st'.L).1) := fun hb => by
      obtain ⟨i, h1, h2, h3, h4⟩ := openZ_in st'.s st'.zs (needP p) _ st'.L rfl hb
      rw [h1]
      have hle := (frN_le (p :: r) (roomI st'.s.b).toNat (roomZ st'.s st'.zs i - 1)).1
      have hzb := hv.wf.right.2.2.2.1
      refine ⟨front_pos hv.wf.right h4, by rw [hm1]; exact hle, by unfold roomZ; omega, ?_⟩
      have : 1 ≤ needP p := by unfold needP; split <;> omega
      omega
     generalize hoz : openZ st'.s st'.zs (needP p) st'.L = oz at HSt HF HOI
     obtain ⟨oa, ob, oL⟩ := oz
     simp only at HSt HF HOI
     generalize hfn : frontN st' oa (p :: r) = fn at HSt HF HOI
     have HM1 : Hid (m = r.length + 1) := hm1
     clear hcl hv hD ho hpw hX' hput hoz hfn hpts hm1
     cases ob with
     | false =>
      rw [if_neg (by decide)] at HF
      go_wp2_with (first
       | (go_at_call 30; refine HNe.out.mono ?_; rintro e w2 ⟨rfl, b2⟩)
       | (go_at_call 29; refine (HSt.out _ b2).mono ?_; rintro e w3 ⟨rfl, sv3, _⟩))
      go_ret
      rw [HM.out, HF.out]
      exact ⟨rfl, Sv.mono (Sv.next HSv.out.1 (HSv.out.2 _ b2) sv3) (by omega)⟩
     | true =>
      rw [if_pos rfl] at HF
      obtain ⟨hn0, hnm, hr1, hr2⟩ := HOI.out rfl
      obtain ⟨RZ, hRZ⟩ : ∃ RZ, RZ = roomZ st'.s st'.zs oa := ⟨_, rfl⟩
      rw [← hRZ] at hr1 hr2
      have hwr : IntKind.i64.wrap (RZ - 1) = RZ - 1 := by rw [IntKind.wrap_i64]; omega
      have hrm := room_of st.s.b
      have hsb := pslice_back (some ⟨b, off, none⟩) m cc' fn hnm
      rw [← hRZ, hbs] at HSt
      have HS2 : Hid (∀ w', Below wr.heap.size wr w' → Calls Tryz.prog 29 #[.pointer (some ⟨k.ps, 0, none⟩), .int .i64 (needP p)] w' fun e w3 => e = .returned (.tuple #[.int .i64 oa, .bool true]) ∧ Calls Tryz.prog 33 #[.pointer (some ⟨k.ps, 0, none⟩), .int .i64 oa] w3 fun e w4 => e = .returned (.int .i64 RZ) ∧ Calls Tryz.prog 31 #[.slice (some ⟨b, off, none⟩) m cc', .int .i64 (roomI st.s.b), .int .i64 (RZ - 1)] w4 fun e w5 => e = .returned (.slice (some ⟨b, off, none⟩) fn cc') ∧ Calls Tryz.prog 34 #[.pointer (some ⟨k.ps, 0, none⟩), .int .i64 oa, .slice (some ⟨b, off, none⟩) fn cc'] w5 fun e w6 => e = .returned (.tuple #[]) ∧ Sv D' w' k (writeM { st' with L := oL } oa ((p :: r).take fn)) (c' + fn) w6) := fun w' hb => (HSt.out w' hb).mono (fun e w3 h => ⟨h.1, h.2.2 rfl⟩)
      clear hRZ HOI HSt
      go_wp2_with (first
       | (go_at_call 30; refine HNe.out.mono ?_; rintro e w2 ⟨rfl, b2⟩)
       | (go_at_call 29; refine (HS2.out _ b2).mono ?_; rintro e w3 ⟨rfl, hst2⟩)
       | (go_at_call 32; refine (hrm _).mono ?_; rintro e w9 ⟨rfl, rfl⟩)
       | (go_at_call 33; refine hst2.mono ?_; rintro e w4 ⟨rfl, hst3⟩)
       | (go_at_call 31; refine hst3.mono ?_; rintro e w5 ⟨rfl, hst4⟩)
       | (go_at_call 34; refine hst4.mono ?_; rintro e w6 ⟨rfl, sv6⟩))
      have H6 : Hid (Sv D W k (writeM { st' with L := oL } oa ((p :: r).take fn)) (c' + fn) w6) := Sv.next HSv.out.1 (HSv.out.2 _ b2) sv6
      have HW6 : Hid (PtsIn X W (kleft (some ⟨b, off, none⟩) cc' fn) (m - fn) ((p :: r).drop fn)) := HP.out.back fn hnm hmc
      clear sv6
      go_wp2
      go_roundw
      case rel => exact ⟨(p :: r).drop fn, kleft (some ⟨b, off, none⟩) cc' fn, m - fn, cc' - fn, f, writeM { st' with L := oL } oa ((p :: r).take fn), c' + fn, rfl, by omega, HW6.out, hss, by rw [List.length_drop]; simp only [List.length_cons] at hlf ⊢; omega, by omega, H6.out, by rw [← HF.out, ← HM.out]; unfold putM; rw [if_pos HO.out.1]⟩
      case measure => simp [lenOf]; omega
end
end
end Go.Proofs.YtcdnjeiamihhbabGreat
