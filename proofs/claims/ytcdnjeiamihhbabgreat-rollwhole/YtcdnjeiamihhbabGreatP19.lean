/- P19 -/
import Derived.BigQuiet
import Derived.Test.YtcdnjeiamihhbabGreatP6
set_option linter.unusedVariables false
set_option maxRecDepth 4000
namespace Go.Proofs.YtcdnjeiamihhbabGreat
open Go.RowKit Go.Shelf
section
theorem below_drewN (w : World) (n : Nat) : Below w.heap.size w (w.drewN n) := ⟨rfl, rfl, rfl, Nat.le_refl _, fun _ _ => rfl⟩
section
variable {O : Nat → Prop} {W : World} {p : Nat} {s : Sh} {zs : List Zn}
theorem has_of (zn : Int) (hd : Dv 105 O W p s zs) :
  Calls Tryz.prog 38 #[.pointer (some ⟨p, 0, none⟩), .int .i64 zn] W fun e w' => e = .returned (.bool (decide (0 ≤ zn) && decide (zn ≤ (zs.length : Int) - 1))) ∧ w' = W := by
 obtain ⟨g, c, vs, hv⟩ := hd
 have c4 := hv.pcell.2.2.2.2
 have hl := hv.small
 have hw : IntKind.i64.wrap ((zs.length : Int) - 1) = (zs.length : Int) - 1 := by rw [IntKind.wrap_i64]; omega
 clear hl hv
 go_enter Tryz.func38, Tryz.ntmps38
 go_wp2_with (go_at_call 39; refine (within_of _ _ _ _).mono ?_; rintro e w' ⟨rfl, rfl⟩)
 go_ret
 exact ⟨rfl, rfl⟩
theorem Tryz.info_shape : (Tryz.prog.info? 23).map (·.size) = some 4 := by kernel_rfl
theorem shape_of (hd : Dv 105 O W p s zs) :
  Calls Tryz.prog 28 #[.pointer (some ⟨p, 0, none⟩)] W fun e w' => e = .returned (.agg (shL s).toArray) ∧ Below W.heap.size W w' := by
 obtain ⟨g, c, vs, hv⟩ := hd
 obtain ⟨q, hq⟩ : ∃ q, q = W.heap.size := ⟨_, rfl⟩
 have hb : Blk (W.alloc (.cells #[.int .i64 0, .int .i64 0, .int .i64 0, .int .i64 0] 23)) q [.int .i64 0, .int .i64 0, .int .i64 0, .int .i64 0] 23 := Blk.new' hq.symm rfl
 have hbel : Below q W (W.alloc (.cells #[.int .i64 0, .int .i64 0, .int .i64 0, .int .i64 0] 23)) := (Below.refl _ _).alloc (by omega) _
 have hv' := hv.under (by rw [← hq]; exact hbel)
 rw [← hq]
 go_enter Tryz.func28, Tryz.ntmps28
 go_upto_region 1 with fail
 rw [← hq]
 generalize hW1 : World.alloc _ _ = W1 at *
 obtain ⟨c0, c1, c2, c3, c4⟩ := hv'.pcell
 have e0 : W1.cell? ⟨q, 0, none⟩ = some (.int .i64 0) := hb.cell 0
 have e1 : W1.cell? ⟨q, 1, none⟩ = some (.int .i64 0) := hb.cell 1
 have e2 : W1.cell? ⟨q, 2, none⟩ = some (.int .i64 0) := hb.cell 2
 have e3 : W1.cell? ⟨q, 3, none⟩ = some (.int .i64 0) := hb.cell 3
 have f0 := hb.frozen 0
 have f1 := hb.frozen 1
 have f2 := hb.frozen 2
 have f3 := hb.frozen 3
 have HB : Hid (Blk W1 q [.int .i64 0, .int .i64 0, .int .i64 0, .int .i64 0] 23 ∧ Below q W W1) := ⟨hb, hbel⟩
 clear hb hbel hv hv' hW1 hq
 go_wp2
 refine bodyPost_ret (results_cell_one (p := 2) (ty := 23) rfl _ _ q [.int .i64 s.z, .int .i64 s.zb, .int .i64 s.b, .int .i64 s.r] _ _ rfl ((((HB.out.1.set 0 _).set 1 _).set 2 _).set 3 _) Tryz.underlying23 rfl Tryz.info_shape) rfl ⟨rfl, ?_⟩
 exact (((HB.out.2.setCell (p := ⟨q, 0, none⟩) (Nat.le_refl _) _).setCell (p := ⟨q, 1, none⟩) (Nat.le_refl _) _).setCell (p := ⟨q, 2, none⟩) (Nat.le_refl _) _).setCell (p := ⟨q, 3, none⟩) (Nat.le_refl _) _
def atZ (zs : List Zn) (zn : Int) : Zn := if 0 ≤ zn then zs.getD zn.toNat ([], 0) else ([], 0)
theorem atZ_in {zs : List Zn} {i : Nat} {z : Zn} (h : zs[i]? = some z) : atZ zs i = z := by
 simp [atZ, List.getD, h]
theorem atZ_out {zs : List Zn} {zn : Int} (h : ¬ (0 ≤ zn ∧ zn ≤ (zs.length : Int) - 1)) : atZ zs zn = ([], 0) := by
 unfold atZ
 split
 ·rw [List.getD, List.getElem?_eq_none (by omega)]; rfl
 ·rfl
theorem zone_cases (zs : List Zn) (zn : Int) : (∃ (i : Nat) (z : Zn), zn = i ∧ zs[i]? = some z ∧ i < zs.length ∧ (decide (0 ≤ zn) && decide (zn ≤ (zs.length : Int) - 1)) = true) ∨ (¬ (0 ≤ zn ∧ zn ≤ (zs.length : Int) - 1) ∧ (decide (0 ≤ zn) && decide (zn ≤ (zs.length : Int) - 1)) = false) := by
 by_cases h : 0 ≤ zn ∧ zn ≤ (zs.length : Int) - 1
 ·exact .inl ⟨zn.toNat, zs[zn.toNat]'(by omega), by omega, by simp, by omega, by simp; omega⟩
 ·exact .inr ⟨h, by simp; omega⟩
theorem at_of (zn : Int) (hd : Dv 105 O W p s zs) :
  Calls Tryz.prog 12 #[.pointer (some ⟨p, 0, none⟩), .int .i64 zn] W fun e w' => e = .returned (.tuple #[.int .i64 ((atZ zs zn).1.length : Nat), .int .i64 (atZ zs zn).2]) ∧ Below W.heap.size W w' := by
 have hh := has_of zn hd
 rcases zone_cases zs zn with ⟨i, z, rfl, hz, hi, hb⟩ | ⟨hn, hb⟩
 ·rw [hb] at hh
  rw [atZ_in hz]
  obtain ⟨g, c, vs, hv⟩ := hd
  obtain ⟨a, cc, hu, hr, z0, z1⟩ := hv.at hz
  have c4 := hv.pcell.2.2.2.2
  have HH : Hid (Calls Tryz.prog 38 #[.pointer (some ⟨p, 0, none⟩), .int .i64 (i : Int)] W fun e w' => e = .returned (.bool true) ∧ w' = W) := hh
  have HB : Hid (∀ w', w' = W.drew → Below W.heap.size W w') := fun w' e => by rw [e]; exact (Below.refl _ _).drew
  have hi' : (i : Int) < zs.length := by omega
  clear hh hv hr hz hu
  go_enter Tryz.func12, Tryz.ntmps12
  go_wp2_with (go_at_call 38; refine HH.out.mono ?_; rintro e W ⟨rfl, rfl⟩)
  go_quiet (fail)
  go_wp2
  go_ret2
  exact ⟨rfl, below_drewN _ _⟩
 ·rw [hb] at hh
  rw [atZ_out hn]
  have HH : Hid (Calls Tryz.prog 38 #[.pointer (some ⟨p, 0, none⟩), .int .i64 zn] W fun e w' => e = .returned (.bool false) ∧ w' = W) := hh
  clear hh hb hn hd
  go_enter Tryz.func12, Tryz.ntmps12
  go_wp2_with (go_at_call 38; refine HH.out.mono ?_; rintro e W ⟨rfl, rfl⟩)
  go_ret2
  exact ⟨rfl, Below.refl _ _⟩
/-- What comes of a call: the device, in what it had and in new memory. -/
def Step (T : TypeId) (O : Nat → Prop) (W : World) (p : Nat) (s : Sh) (zs' : List Zn) (W' : World) : Prop := Dv T (Ext O W W') W' p s zs' ∧ Out O W W'
theorem step_of {T : TypeId} {zs' : List Zn} {W' : World} (h : Dv T O W' p s zs') (ho : Out O W W') : Step T O W p s zs' W' := by
 obtain ⟨g, c, vs, hv⟩ := h
 exact ⟨⟨g, c, vs, hv.mono (fun x hx _ => .inl hx)⟩, ho⟩
def resetZ (zs : List Zn) (zn : Int) : List Zn := if 0 ≤ zn then zs.set zn.toNat ([], 0) else zs
theorem resetZ_in (zs : List Zn) (i : Nat) : resetZ zs i = zs.set i ([], 0) := by simp [resetZ]
theorem resetZ_out {zs : List Zn} {zn : Int} (h : ¬ (0 ≤ zn ∧ zn ≤ (zs.length : Int) - 1)) : resetZ zs zn = zs := by
 unfold resetZ
 split
 ·rw [List.set_eq_of_length_le (by omega)]
 ·rfl
def resetE (zs : List Zn) (zn : Int) : Int := if 0 ≤ zn ∧ zn ≤ (zs.length : Int) - 1 then 0 else 100
theorem DvV.reset {T : TypeId} {g c : Nat} {vs : List Value} {i : Nat} {z : Zn} (hv : DvV T O W p s zs g c vs) (hz : zs[i]? = some z) : Step T O W p s (zs.set i ([], 0)) ((W.setCell ⟨g, i * 2, none⟩ (.slice none 0 0)).setCell ⟨g, i * 2 + 1, none⟩ (.int .i64 0)) := by
 obtain ⟨a, cc, hu, hr, z0, z1⟩ := hv.at hz
 obtain ⟨_, _, _, h4⟩ := hv.upd (u' := .slice none 0 0) (bs' := []) hz hu (Out.refl _ _) (fun _ h => h) (RowAt.nil _ _) (.inr fun r e => by cases e)
 have hi := (List.getElem?_eq_some_iff.1 hz).1
 have h5 := h4.setD (i := i) (z := ([], z.2)) (by simp [hi]) 0
 rw [List.set_set] at h5
 exact step_of ⟨g, c, _, h5⟩ (((Out.refl O W).setCell (p := ⟨g, i * 2, none⟩) (.inl hv.og) _).setCell (p := ⟨g, i * 2 + 1, none⟩) (.inl hv.og) _)
theorem reset_of (zn : Int) (hd : Dv 105 O W p s zs) :
  Calls Tryz.prog 62 #[.pointer (some ⟨p, 0, none⟩), .int .i64 zn] W fun e w' => e = .returned (.int .u16 (resetE zs zn)) ∧ Step 105 O W p s (resetZ zs zn) w' := by
 have hh := has_of zn hd
 rcases zone_cases zs zn with ⟨i, z, rfl, hz, hi, hb⟩ | ⟨hn, hb⟩
 ·rw [hb] at hh
  rw [resetZ_in, resetE, if_pos (by omega)]
  obtain ⟨g, c, vs, hv⟩ := hd
  obtain ⟨a, cc, hu, hr, z0, z1⟩ := hv.at hz
  have f0 := hv.free (i * 2)
  have f1 := hv.free (i * 2 + 1)
  have c4 := hv.pcell.2.2.2.2
  have HR : Hid (Step 105 O W p s (zs.set i ([], 0)) ((W.setCell ⟨g, i * 2, none⟩ (.slice none 0 0)).setCell ⟨g, i * 2 + 1, none⟩ (.int .i64 0))) := hv.reset hz
  have HH : Hid (Calls Tryz.prog 38 #[.pointer (some ⟨p, 0, none⟩), .int .i64 (i : Int)] W fun e w' => e = .returned (.bool true) ∧ w' = W) := hh
  have hi' : (i : Int) < zs.length := by omega
  clear hh hv hr hz hu
  go_enter Tryz.func62, Tryz.ntmps62
  go_wp2_with (go_at_call 38; refine HH.out.mono ?_; rintro e W ⟨rfl, rfl⟩)
  go_ret
  exact ⟨rfl, HR.out⟩
 ·rw [hb] at hh
  rw [resetZ_out hn, resetE, if_neg hn]
  have HH : Hid (Calls Tryz.prog 38 #[.pointer (some ⟨p, 0, none⟩), .int .i64 zn] W fun e w' => e = .returned (.bool false) ∧ w' = W) := hh
  have HD : Hid (Dv 105 O W p s zs) := hd
  clear hh hb hn hd
  go_enter Tryz.func62, Tryz.ntmps62
  go_wp2_with (go_at_call 38; refine HH.out.mono ?_; rintro e W ⟨rfl, rfl⟩)
  go_ret
  exact ⟨rfl, step_of HD.out (Out.refl _ _)⟩
/-- The first i elements turned. -/
def upTo {α : Type} (f : Nat → α → α) (l : List α) (i : Nat) : List α := l.mapIdx (fun j z => if j < i then f j z else z)
theorem upTo_length {α : Type} (f : Nat → α → α) (l : List α) (i : Nat) : (upTo f l i).length = l.length := by simp [upTo]
theorem upTo_zero {α : Type} (f : Nat → α → α) (l : List α) : upTo f l 0 = l := by
 apply List.ext_getElem?; intro j; simp [upTo]
theorem upTo_get {α : Type} (f : Nat → α → α) (l : List α) (i : Nat) : (upTo f l i)[i]? = l[i]? := by simp [upTo]
theorem upTo_next {α : Type} (f : Nat → α → α) (l : List α) {i : Nat} {z : α} (h : l[i]? = some z) : (upTo f l i).set i (f i z) = upTo f l (i + 1) := by
 have hi := (List.getElem?_eq_some_iff.1 h).1
 apply List.ext_getElem?
 intro j
 by_cases e : i = j
 ·subst e
  rw [List.getElem?_set_self (by simp [upTo, hi])]
  simp [upTo, h]
 ·rw [List.getElem?_set_ne e]
  simp only [upTo, List.getElem?_mapIdx]
  congr 1
  funext z
  by_cases hj : j < i
  ·rw [if_pos hj, if_pos (by omega)]
  ·rw [if_neg hj, if_neg (by omega)]
theorem upTo_all {α : Type} (f : Nat → α → α) (l : List α) {i : Nat} (h : l.length ≤ i) : upTo f l i = l.mapIdx f := by
 apply List.ext_getElem?
 intro j
 simp only [upTo, List.getElem?_mapIdx]
 rcases Nat.lt_or_ge j l.length with hj | hj
 ·rw [List.getElem?_eq_getElem hj]; simp; omega
 ·rw [List.getElem?_eq_none hj]; rfl
def fl (z : Zn) : Zn := (z.1, z.1.length)
def flushZ (zs : List Zn) : List Zn := zs.mapIdx (fun _ z => fl z)
set_option maxHeartbeats 2000000 in
theorem flush_of (hd : Dv 105 O W p s zs) :
  Calls Tryz.prog 55 #[.pointer (some ⟨p, 0, none⟩)] W fun e w' => (∃ v, e = .returned v) ∧ Step 105 O W p s (flushZ zs) w' := by
 obtain ⟨g, c, vs, hv⟩ := hd
 have c4 := hv.pcell.2.2.2.2
 have hl := hv.small
 have HV : Hid (DvV 105 O W p s zs g c vs) := hv
 clear hv
 generalize hN : zs.length = N at *
 go_enter Tryz.func55, Tryz.ntmps55
 go_wp2
 go_loopw [8] (fun x wr => ∃ i : Nat, x = .int .i64 i ∧ i ≤ N ∧ DvV 105 O wr p s (upTo (fun _ z => fl z) zs i) g c vs ∧ Out O W wr) (fun x wr => N - (intOf x).toNat)
 case atStart => exact ⟨0, rfl, Nat.zero_le _, by rw [upTo_zero]; exact HV.out, Out.refl _ _⟩
 case round =>
  obtain ⟨i, rfl, hi, hv, ho⟩ := hrel
  have c4' := hv.pcell.2.2.2.2
  rw [upTo_length, hN] at c4'
  rcases Nat.lt_or_ge i N with hlt | hge
  ·obtain ⟨z, hz⟩ : ∃ z, zs[i]? = some z := ⟨zs[i]'(by omega), by simp⟩
   obtain ⟨a, cc, hu, hr, z0, z1⟩ := hv.at ((upTo_get _ _ _).trans hz)
   have f1 := hv.free (i * 2 + 1)
   have HS : Hid (DvV 105 O (wr.setCell ⟨g, i * 2 + 1, none⟩ (.int .i64 (z.1.length : Nat))) p s (upTo (fun _ z => fl z) zs (i + 1)) g c vs ∧ Out O W (wr.setCell ⟨g, i * 2 + 1, none⟩ (.int .i64 (z.1.length : Nat)))) := by
    refine ⟨?_, ho.setCell (p := ⟨g, i * 2 + 1, none⟩) (.inl hv.og) _⟩
    have := hv.setD ((upTo_get _ _ _).trans hz) (z.1.length : Nat)
    rw [← upTo_next _ _ hz]
    exact this
   have hi' : (i : Int) < (N : Int) := by omega
   have hw : IntKind.i64.wrap ((i : Int) + 1) = (i : Int) + 1 := by rw [IntKind.wrap_i64]; omega
   have k4 := HS.out.1.pcell.2.2.2.2
   rw [upTo_length, hN] at k4
   have k0 : (wr.setCell ⟨g, i * 2 + 1, none⟩ (.int .i64 (z.1.length : Nat))).cell? ⟨g, i * 2, none⟩ = some (.slice a z.1.length cc) := by
    rw [World.cell?_setCell_other _ _ _ _ (by intro e; injection e with _ e; omega)]; exact z0
   clear hv ho hr hu c4
   go_wp2
   go_region_held3 (fun w' => w'.cell? ⟨p, 4, none⟩ = some (.slice (some ⟨g, 0, none⟩) N c) ∧ w'.cell? ⟨g, i * 2, none⟩ = some (.slice a z.1.length cc)) (first | exact ⟨c4', z0⟩ | exact ⟨k4, k0⟩) (fail)
   clear z0 z1 c4' k4 k0
   generalize World.setCell _ _ _ = V at HS ⊢
   go_wp2
   go_roundw
   case rel => exact ⟨i + 1, by simp, by omega, HS.out.1.under (Below.refl _ _).drew, HS.out.2.drew⟩
   case measure => simp [intOf]; omega
  ·obtain rfl : i = N := by omega
   have HS : Hid (DvV 105 O wr p s (upTo (fun _ z => fl z) zs i) g c vs ∧ Out O W wr) := ⟨hv, ho⟩
   clear hv ho c4 c4'
   go_wp2
   go_end0
   refine ⟨⟨_, rfl⟩, step_of ⟨g, c, vs, ?_⟩ HS.out.2⟩
   have := HS.out.1
   rw [upTo_all _ _ (by omega)] at this
   exact this
end
end
section
section
variable {O : Nat → Prop} {W : World} {p : Nat} {s : Sh} {zs : List Zn}
end
end
def ShortZ (zs : List Zn) : Prop := ∀ z ∈ zs, Short z.1
end Go.Proofs.YtcdnjeiamihhbabGreat
