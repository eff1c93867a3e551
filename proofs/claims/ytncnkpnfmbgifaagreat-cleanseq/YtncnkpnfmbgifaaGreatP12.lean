/- Texts of this seat, one behind the other: CkDec, ZOps, ZSame, ZApp. -/
import Derived.Test.YtncnkpnfmbgifaaGreatP11
import Derived.Test.YtncnkpnfmbgifaaGreatP4
import Derived.BigQuiet
/- What one call of ckpt's Decode does. -/
namespace Go.Proofs.YtncnkpnfmbgifaaGreat
open Go.RowKit Go.Shelf
set_option linter.unusedVariables false
set_option maxRecDepth 4000

theorem ckL_short {s : Sh} {seq : Int} {ps : List Pl} (h : ckE s ps = 0) : Short (ckL s seq ps) := by
 obtain ⟨hg, hm⟩ := ckE_zero.1 h
 have hr := roomN_pos hg.1
 have hp := pow_bounds (show s.b ∈ PowR from hg.1.2.2.2.2.1)
 intro D hD
 obtain ⟨i, hi, rfl⟩ := ckL_mem hD
 have := partK_length_le (roomN s) i ps
 rw [ckB_length (by omega)]
 omega
end Go.Proofs.YtncnkpnfmbgifaaGreat

/- What one call of has, At, Shape, Reset, Flush does. -/
namespace Go.Proofs.YtncnkpnfmbgifaaGreat
open Go.RowKit Go.Shelf
set_option linter.unusedVariables false
set_option maxRecDepth 4000

theorem below_drewN (w : World) (n : Nat) : Below w.heap.size w (w.drewN n) := ⟨rfl, rfl, rfl, Nat.le_refl _, fun _ _ => rfl⟩
section
variable {O : Nat → Prop} {W : World} {p : Nat} {s : Sh} {zs : List Zn}
theorem has_of (zn : Int) (hd : Dv 122 O W p s zs) :
  Calls Tryz.prog 62 #[.pointer (some ⟨p, 0, none⟩), .int .i64 zn] W fun e w' => e = .returned (.bool (decide (0 ≤ zn) && decide (zn ≤ (zs.length : Int) - 1))) ∧ w' = W := by
 obtain ⟨g, c, vs, hv⟩ := hd
 have c4 := hv.pcell.2.2.2.2
 have hl := hv.small
 have hw : IntKind.i64.wrap ((zs.length : Int) - 1) = (zs.length : Int) - 1 := by rw [IntKind.wrap_i64]; omega
 clear hl hv
 go_enter Tryz.func62, Tryz.ntmps62
 go_wp2_with (go_at_call 112; refine (within_of _ _ _ _).mono ?_; rintro e w' ⟨rfl, rfl⟩)
 go_ret
 exact ⟨rfl, rfl⟩
theorem Tryz.info_shape : (Tryz.prog.info? 23).map (·.size) = some 4 := by kernel_rfl
theorem shape_of (hd : Dv 122 O W p s zs) :
  Calls Tryz.prog 54 #[.pointer (some ⟨p, 0, none⟩)] W fun e w' => e = .returned (.agg (shL s).toArray) ∧ Below W.heap.size W w' := by
 obtain ⟨g, c, vs, hv⟩ := hd
 obtain ⟨q, hq⟩ : ∃ q, q = W.heap.size := ⟨_, rfl⟩
 have hb : Blk (W.alloc (.cells #[.int .i64 0, .int .i64 0, .int .i64 0, .int .i64 0] 23)) q [.int .i64 0, .int .i64 0, .int .i64 0, .int .i64 0] 23 := Blk.new' hq.symm rfl
 have hbel : Below q W (W.alloc (.cells #[.int .i64 0, .int .i64 0, .int .i64 0, .int .i64 0] 23)) := (Below.refl _ _).alloc (by omega) _
 have hv' := hv.under (by rw [← hq]; exact hbel)
 rw [← hq]
 go_enter Tryz.func54, Tryz.ntmps54
 go_upto_region 1 with fail
 rw [← hq]
 generalize hW1 : World.alloc _ _ = W1 at *
 obtain ⟨c0, c1, c2, c3, c4⟩ := hv'.pcell
 have e0 : W1.cell? ⟨q, 0, none⟩ = some (.int .i64 0) := hb.cell 0
 have e1 : W1.cell? ⟨q, 1, none⟩ = some (.int .i64 0) := hb.cell 1
 have e2 : W1.cell? ⟨q, 2, none⟩ = some (.int .i64 0) := hb.cell 2
 have e3 : W1.cell? ⟨q, 3, none⟩ = some (.int .i64 0) := hb.cell 3
 have f0 := hb.frozen 0
 have f1 := hb.frozen 1
 have f2 := hb.frozen 2
 have f3 := hb.frozen 3
 have HB : Hid (Blk W1 q [.int .i64 0, .int .i64 0, .int .i64 0, .int .i64 0] 23 ∧ Below q W W1) := ⟨hb, hbel⟩
 clear hb hbel hv hv' hW1 hq
 go_wp2
 refine bodyPost_ret (results_cell_one (p := 2) (ty := 23) rfl _ _ q [.int .i64 s.z, .int .i64 s.zb, .int .i64 s.b, .int .i64 s.r] _ _ rfl ((((HB.out.1.set 0 _).set 1 _).set 2 _).set 3 _) Tryz.underlying23 rfl Tryz.info_shape) rfl ⟨rfl, ?_⟩
 exact (((HB.out.2.setCell (p := ⟨q, 0, none⟩) (Nat.le_refl _) _).setCell (p := ⟨q, 1, none⟩) (Nat.le_refl _) _).setCell (p := ⟨q, 2, none⟩) (Nat.le_refl _) _).setCell (p := ⟨q, 3, none⟩) (Nat.le_refl _) _

def atZ (zs : List Zn) (zn : Int) : Zn := if 0 ≤ zn then zs.getD zn.toNat ([], 0) else ([], 0)
theorem atZ_in {zs : List Zn} {i : Nat} {z : Zn} (h : zs[i]? = some z) : atZ zs i = z := by
 simp [atZ, List.getD, h]
theorem atZ_out {zs : List Zn} {zn : Int} (h : ¬ (0 ≤ zn ∧ zn ≤ (zs.length : Int) - 1)) : atZ zs zn = ([], 0) := by
 unfold atZ
 split
 ·rw [List.getD, List.getElem?_eq_none (by omega)]; rfl
 ·rfl
theorem zone_cases (zs : List Zn) (zn : Int) : (∃ (i : Nat) (z : Zn), zn = i ∧ zs[i]? = some z ∧ i < zs.length ∧ (decide (0 ≤ zn) && decide (zn ≤ (zs.length : Int) - 1)) = true) ∨ (¬ (0 ≤ zn ∧ zn ≤ (zs.length : Int) - 1) ∧ (decide (0 ≤ zn) && decide (zn ≤ (zs.length : Int) - 1)) = false) := by
 by_cases h : 0 ≤ zn ∧ zn ≤ (zs.length : Int) - 1
 ·exact .inl ⟨zn.toNat, zs[zn.toNat]'(by omega), by omega, by simp, by omega, by simp; omega⟩
 ·exact .inr ⟨h, by simp; omega⟩

theorem at_of (zn : Int) (hd : Dv 122 O W p s zs) :
  Calls Tryz.prog 26 #[.pointer (some ⟨p, 0, none⟩), .int .i64 zn] W fun e w' => e = .returned (.tuple #[.int .i64 ((atZ zs zn).1.length : Nat), .int .i64 (atZ zs zn).2]) ∧ Below W.heap.size W w' := by
 have hh := has_of zn hd
 rcases zone_cases zs zn with ⟨i, z, rfl, hz, hi, hb⟩ | ⟨hn, hb⟩
 ·rw [hb] at hh
  rw [atZ_in hz]
  obtain ⟨g, c, vs, hv⟩ := hd
  obtain ⟨a, cc, hu, hr, z0, z1⟩ := hv.at hz
  have c4 := hv.pcell.2.2.2.2
  have HH : Hid (Calls Tryz.prog 62 #[.pointer (some ⟨p, 0, none⟩), .int .i64 (i : Int)] W fun e w' => e = .returned (.bool true) ∧ w' = W) := hh
  have HB : Hid (∀ w', w' = W.drew → Below W.heap.size W w') := fun w' e => by rw [e]; exact (Below.refl _ _).drew
  have hi' : (i : Int) < zs.length := by omega
  clear hh hv hr hz hu
  go_enter Tryz.func26, Tryz.ntmps26
  go_wp2_with (go_at_call 62; refine HH.out.mono ?_; rintro e W ⟨rfl, rfl⟩)
  go_quiet (fail)
  go_wp2
  go_ret2
  exact ⟨rfl, below_drewN _ _⟩
 ·rw [hb] at hh
  rw [atZ_out hn]
  have HH : Hid (Calls Tryz.prog 62 #[.pointer (some ⟨p, 0, none⟩), .int .i64 zn] W fun e w' => e = .returned (.bool false) ∧ w' = W) := hh
  clear hh hb hn hd
  go_enter Tryz.func26, Tryz.ntmps26
  go_wp2_with (go_at_call 62; refine HH.out.mono ?_; rintro e W ⟨rfl, rfl⟩)
  go_ret2
  exact ⟨rfl, Below.refl _ _⟩
def Step (T : TypeId) (O : Nat → Prop) (W : World) (p : Nat) (s : Sh) (zs' : List Zn) (W' : World) : Prop := Dv T (Ext O W W') W' p s zs' ∧ Out O W W'
theorem step_of {T : TypeId} {zs' : List Zn} {W' : World} (h : Dv T O W' p s zs') (ho : Out O W W') : Step T O W p s zs' W' := by
 obtain ⟨g, c, vs, hv⟩ := h
 exact ⟨⟨g, c, vs, hv.mono (fun x hx _ => .inl hx)⟩, ho⟩

def resetZ (zs : List Zn) (zn : Int) : List Zn := if 0 ≤ zn then zs.set zn.toNat ([], 0) else zs
theorem resetZ_in (zs : List Zn) (i : Nat) : resetZ zs i = zs.set i ([], 0) := by simp [resetZ]
theorem resetZ_out {zs : List Zn} {zn : Int} (h : ¬ (0 ≤ zn ∧ zn ≤ (zs.length : Int) - 1)) : resetZ zs zn = zs := by
 unfold resetZ
 split
 ·rw [List.set_eq_of_length_le (by omega)]
 ·rfl
def resetE (zs : List Zn) (zn : Int) : Int := if 0 ≤ zn ∧ zn ≤ (zs.length : Int) - 1 then 0 else 100
theorem DvV.reset {T : TypeId} {g c : Nat} {vs : List Value} {i : Nat} {z : Zn} (hv : DvV T O W p s zs g c vs) (hz : zs[i]? = some z) : Step T O W p s (zs.set i ([], 0)) ((W.setCell ⟨g, i * 2, none⟩ (.slice none 0 0)).setCell ⟨g, i * 2 + 1, none⟩ (.int .i64 0)) := by
 obtain ⟨a, cc, hu, hr, z0, z1⟩ := hv.at hz
 obtain ⟨_, _, _, h4⟩ := hv.upd (u' := .slice none 0 0) (bs' := []) hz hu (Out.refl _ _) (fun _ h => h) (RowAt.nil _ _) (.inr fun r e => by cases e)
 have hi := (List.getElem?_eq_some_iff.1 hz).1
 have h5 := h4.setD (i := i) (z := ([], z.2)) (by simp [hi]) 0
 rw [List.set_set] at h5
 exact step_of ⟨g, c, _, h5⟩ (((Out.refl O W).setCell (p := ⟨g, i * 2, none⟩) (.inl hv.og) _).setCell (p := ⟨g, i * 2 + 1, none⟩) (.inl hv.og) _)
theorem reset_of (zn : Int) (hd : Dv 122 O W p s zs) :
  Calls Tryz.prog 87 #[.pointer (some ⟨p, 0, none⟩), .int .i64 zn] W fun e w' => e = .returned (.int .u16 (resetE zs zn)) ∧ Step 122 O W p s (resetZ zs zn) w' := by
 have hh := has_of zn hd
 rcases zone_cases zs zn with ⟨i, z, rfl, hz, hi, hb⟩ | ⟨hn, hb⟩
 ·rw [hb] at hh
  rw [resetZ_in, resetE, if_pos (by omega)]
  obtain ⟨g, c, vs, hv⟩ := hd
  obtain ⟨a, cc, hu, hr, z0, z1⟩ := hv.at hz
  have f0 := hv.free (i * 2)
  have f1 := hv.free (i * 2 + 1)
  have c4 := hv.pcell.2.2.2.2
  have HR : Hid (Step 122 O W p s (zs.set i ([], 0)) ((W.setCell ⟨g, i * 2, none⟩ (.slice none 0 0)).setCell ⟨g, i * 2 + 1, none⟩ (.int .i64 0))) := hv.reset hz
  have HH : Hid (Calls Tryz.prog 62 #[.pointer (some ⟨p, 0, none⟩), .int .i64 (i : Int)] W fun e w' => e = .returned (.bool true) ∧ w' = W) := hh
  have hi' : (i : Int) < zs.length := by omega
  clear hh hv hr hz hu
  go_enter Tryz.func87, Tryz.ntmps87
  go_wp2_with (go_at_call 62; refine HH.out.mono ?_; rintro e W ⟨rfl, rfl⟩)
  go_ret
  exact ⟨rfl, HR.out⟩
 ·rw [hb] at hh
  rw [resetZ_out hn, resetE, if_neg hn]
  have HH : Hid (Calls Tryz.prog 62 #[.pointer (some ⟨p, 0, none⟩), .int .i64 zn] W fun e w' => e = .returned (.bool false) ∧ w' = W) := hh
  have HD : Hid (Dv 122 O W p s zs) := hd
  clear hh hb hn hd
  go_enter Tryz.func87, Tryz.ntmps87
  go_wp2_with (go_at_call 62; refine HH.out.mono ?_; rintro e W ⟨rfl, rfl⟩)
  go_ret
  exact ⟨rfl, step_of HD.out (Out.refl _ _)⟩

def upTo {α : Type} (f : Nat → α → α) (l : List α) (i : Nat) : List α := l.mapIdx (fun j z => if j < i then f j z else z)
theorem upTo_length {α : Type} (f : Nat → α → α) (l : List α) (i : Nat) : (upTo f l i).length = l.length := by simp [upTo]
theorem upTo_zero {α : Type} (f : Nat → α → α) (l : List α) : upTo f l 0 = l := by
 apply List.ext_getElem?; intro j; simp [upTo]
theorem upTo_get {α : Type} (f : Nat → α → α) (l : List α) (i : Nat) : (upTo f l i)[i]? = l[i]? := by simp [upTo]
theorem upTo_next {α : Type} (f : Nat → α → α) (l : List α) {i : Nat} {z : α} (h : l[i]? = some z) : (upTo f l i).set i (f i z) = upTo f l (i + 1) := by
 have hi := (List.getElem?_eq_some_iff.1 h).1
 apply List.ext_getElem?
 intro j
 by_cases e : i = j
 ·subst e
  rw [List.getElem?_set_self (by simp [upTo, hi])]
  simp [upTo, h]
 ·rw [List.getElem?_set_ne e]
  simp only [upTo, List.getElem?_mapIdx]
  congr 1
  funext z
  by_cases hj : j < i
  ·rw [if_pos hj, if_pos (by omega)]
  ·rw [if_neg hj, if_neg (by omega)]
theorem upTo_all {α : Type} (f : Nat → α → α) (l : List α) {i : Nat} (h : l.length ≤ i) : upTo f l i = l.mapIdx f := by
 apply List.ext_getElem?
 intro j
 simp only [upTo, List.getElem?_mapIdx]
 rcases Nat.lt_or_ge j l.length with hj | hj
 ·rw [List.getElem?_eq_getElem hj]; simp; omega
 ·rw [List.getElem?_eq_none hj]; rfl
def fl (z : Zn) : Zn := (z.1, z.1.length)
def flushZ (zs : List Zn) : List Zn := zs.mapIdx (fun _ z => fl z)

set_option maxHeartbeats 2000000 in
theorem flush_of (hd : Dv 122 O W p s zs) :
  Calls Tryz.prog 86 #[.pointer (some ⟨p, 0, none⟩)] W fun e w' => (∃ v, e = .returned v) ∧ Step 122 O W p s (flushZ zs) w' := by
 obtain ⟨g, c, vs, hv⟩ := hd
 have c4 := hv.pcell.2.2.2.2
 have hl := hv.small
 have HV : Hid (DvV 122 O W p s zs g c vs) := hv
 clear hv
 generalize hN : zs.length = N at *
 go_enter Tryz.func86, Tryz.ntmps86
 go_wp2
 go_loopw [8] (fun x wr => ∃ i : Nat, x = .int .i64 i ∧ i ≤ N ∧ DvV 122 O wr p s (upTo (fun _ z => fl z) zs i) g c vs ∧ Out O W wr) (fun x wr => N - (intOf x).toNat)
 case atStart => exact ⟨0, rfl, Nat.zero_le _, by rw [upTo_zero]; exact HV.out, Out.refl _ _⟩
 case round =>
  obtain ⟨i, rfl, hi, hv, ho⟩ := hrel
  have c4' := hv.pcell.2.2.2.2
  rw [upTo_length, hN] at c4'
  rcases Nat.lt_or_ge i N with hlt | hge
  ·obtain ⟨z, hz⟩ : ∃ z, zs[i]? = some z := ⟨zs[i]'(by omega), by simp⟩
   obtain ⟨a, cc, hu, hr, z0, z1⟩ := hv.at ((upTo_get _ _ _).trans hz)
   have f1 := hv.free (i * 2 + 1)
   have HS : Hid (DvV 122 O (wr.setCell ⟨g, i * 2 + 1, none⟩ (.int .i64 (z.1.length : Nat))) p s (upTo (fun _ z => fl z) zs (i + 1)) g c vs ∧ Out O W (wr.setCell ⟨g, i * 2 + 1, none⟩ (.int .i64 (z.1.length : Nat)))) := by
    refine ⟨?_, ho.setCell (p := ⟨g, i * 2 + 1, none⟩) (.inl hv.og) _⟩
    have := hv.setD ((upTo_get _ _ _).trans hz) (z.1.length : Nat)
    rw [← upTo_next _ _ hz]
    exact this
   have hi' : (i : Int) < (N : Int) := by omega
   have hw : IntKind.i64.wrap ((i : Int) + 1) = (i : Int) + 1 := by rw [IntKind.wrap_i64]; omega
   have k4 := HS.out.1.pcell.2.2.2.2
   rw [upTo_length, hN] at k4
   have k0 : (wr.setCell ⟨g, i * 2 + 1, none⟩ (.int .i64 (z.1.length : Nat))).cell? ⟨g, i * 2, none⟩ = some (.slice a z.1.length cc) := by
    rw [World.cell?_setCell_other _ _ _ _ (by intro e; injection e with _ e; omega)]; exact z0
   clear hv ho hr hu c4
   go_wp2
   go_region_held3 (fun w' => w'.cell? ⟨p, 4, none⟩ = some (.slice (some ⟨g, 0, none⟩) N c) ∧ w'.cell? ⟨g, i * 2, none⟩ = some (.slice a z.1.length cc)) (first | exact ⟨c4', z0⟩ | exact ⟨k4, k0⟩) (fail)
   clear z0 z1 c4' k4 k0
   generalize World.setCell _ _ _ = V at HS ⊢
   go_wp2
   go_roundw
   case rel => exact ⟨i + 1, by simp, by omega, HS.out.1.under (Below.refl _ _).drew, HS.out.2.drew⟩
   case measure => simp [intOf]; omega
  ·obtain rfl : i = N := by omega
   have HS : Hid (DvV 122 O wr p s (upTo (fun _ z => fl z) zs i) g c vs ∧ Out O W wr) := ⟨hv, ho⟩
   clear hv ho c4 c4'
   go_wp2
   go_end0
   refine ⟨⟨_, rfl⟩, step_of ⟨g, c, vs, ?_⟩ HS.out.2⟩
   have := HS.out.1
   rw [upTo_all _ _ (by omega)] at this
   exact this
end
end Go.Proofs.YtncnkpnfmbgifaaGreat

/- What one call of SameBytes, SameBlocks, SameZones, LentBytes, Lent does. -/
namespace Go.Proofs.YtncnkpnfmbgifaaGreat
open Go.RowKit Go.Shelf
set_option linter.unusedVariables false
set_option maxRecDepth 4000

theorem sameBytes_of (a : Option Addr) (n c : Nat) (xs : List Int) (b : Option Addr) (m d : Nat) (w : World) (hx : BIn w a n xs) (hy : BIn w b m xs) :
  Calls Tryz.prog 22 #[.slice a n c, .slice b m d] w fun e w' => e = .returned (.bool true) ∧ w' = w := by
 have h1 := str_of w a n c xs hx
 have h2 := str_of w b m d xs hy
 go_enter Tryz.func22, Tryz.ntmps22
 go_wp2
 go_ret
 exact ⟨rfl, rfl⟩
def LentE (w : World) (D : List Int) (e : Ending) (w' : World) : Prop :=
 ∃ h, e = .returned h ∧ BkAt (fun k => w.heap.size ≤ k) w' h D ∧ Below w.heap.size w w'
theorem lent_end {w w' : World} {a a' : Option Addr} {n c' : Nat} {D : List Int} (hb : BIn w a n D) (hn : n ≤ 1000000) (ow : w'.ownsRow w.heap.size 5 1 (.slice a' n c') n (u8s D)) (bl : Below w.heap.size w w') : LentE w D (.returned (.slice a' n c')) w' := by
 refine ⟨_, rfl, ⟨?_, fun k hk => (ow.lt k hk).1, hb.2.2.1, by rw [hb.1]; exact hn⟩, bl⟩
 rw [hb.1]
 exact own_zero ow
theorem rLent_of (a : Option Addr) (n c : Nat) (D : List Int) (w : World) (hb : BIn w a n D) (hnil : a = none → n = 0 ∧ c = 0) (hn : n ≤ 1000000) :
  Calls Tryz.prog 141 #[.slice a n c] w (LentE w D) := by
 have hl := hb.1
 have H : Hid (BIn w a n D ∧ (a = none → n = 0 ∧ c = 0) ∧ n ≤ 1000000 ∧ D.length = n) := ⟨hb, hnil, hn, hl⟩
 clear hb hnil hn hl
 go_enter Tryz.func141, Tryz.ntmps141
 go_wp2_with (at_builtin; refine wpList_append_bin rfl (.tmp 4) (.tmp 5) rfl w.heap.size none 0 0 [] rfl (World.ownsRow_nil _ _ _ _) a n c D rfl H.out.1 H.out.2.1 (by have := H.out.2.2.1; omega) (Nat.le_refl _) ?_; intro a' c' w' ow bl)
 go_ret
 exact lent_end H.out.1 H.out.2.2.1 (by simpa using ow) bl

set_option maxHeartbeats 1000000 in
theorem sameBlocks_of (a : Option Addr) (n c : Nat) (b : Option Addr) (m d : Nat) (Ds : List (List Int)) (w : World) (hx : BsIn w a n Ds) (hy : BsIn w b m Ds) :
  Calls Tryz.prog 149 #[.slice a n c, .slice b m d] w fun e w' => e = .returned (.bool true) ∧ ∃ k, w' = w.drewN k := by
 have hnm : n = m := by rw [← hx.1, ← hy.1]
 subst hnm
 have hn : n ≤ 100000 := hx.2.1
 have H : Hid (BsIn w a n Ds ∧ BsIn w b n Ds) := ⟨hx, hy⟩
 clear hx hy
 go_enter Tryz.func149, Tryz.ntmps149
 go_wp2
 go_loopw [5] (fun i wr => ∃ (k d : Nat), k ≤ n ∧ i = .int .i64 k ∧ wr = w.drewN d)
  (fun i _ => n - (intOf i).toNat)
 case atStart => exact ⟨0, 0, by omega, rfl, rfl⟩
 case round =>
  obtain ⟨k, d, hk, rfl, rfl⟩ := hrel
  by_cases hlt : k < n
  ·have hlt' : (k : Int) < n := by omega
   obtain ⟨b1, o1, rfl, hc1⟩ := H.out.1.2.2.resolve_left (by omega)
   obtain ⟨b2, o2, rfl, hc2⟩ := H.out.2.2.2.resolve_left (by omega)
   have hkl : k < Ds.length := by rw [H.out.1.1]; exact hlt
   obtain ⟨v1, c1, A1, L1, C1, rfl, s1, _⟩ := hc1 k Ds[k] (List.getElem?_eq_getElem hkl)
   obtain ⟨v2, c2, A2, L2, C2, rfl, s2, _⟩ := hc2 k Ds[k] (List.getElem?_eq_getElem hkl)
   have h1 := fun j => str_of (w.drewN j) A1 L1 C1 Ds[k] s1
   have h2 := fun j => str_of (w.drewN j) A2 L2 C2 Ds[k] s2
   obtain ⟨S, eS⟩ : ∃ S, S = strOfNums Ds[k] := ⟨_, rfl⟩
   simp only [← eS] at h1 h2
   clear hc1 hc2 eS s1 s2 hkl
   go_wp2
   go_quiet (fail)
   go_wp2
   go_roundw
   case rel => exact ⟨k + 1, _, by omega, by go_num, rfl⟩
   case measure => simp [intOf]; omega
  ·have hge : (n : Int) ≤ k := by omega
   go_wp2
   go_ret
   exact ⟨rfl, d, rfl⟩

def ZsIn (W : World) (a : Option Addr) (n : Nat) (zs : List Zn) : Prop :=
 zs.length = n ∧ n ≤ 1000 ∧ (n = 0 ∨ ∃ b off, a = some ⟨b, off, none⟩ ∧ ∀ (i : Nat) (z : Zn), zs[i]? = some z → ∃ A L C, W.cell? ⟨b, off + i * 2, none⟩ = some (.slice A L C) ∧ W.cell? ⟨b, off + i * 2 + 1, none⟩ = some (.int .i64 z.2) ∧ BsIn W A L z.1)
theorem ZsIn.below {w w' : World} {a : Option Addr} {n : Nat} {zs : List Zn} (h : ZsIn w a n zs) (hb : Below w.heap.size w w') : ZsIn w' a n zs := by
 obtain ⟨h1, h2, h3⟩ := h
 refine ⟨h1, h2, ?_⟩
 rcases h3 with h3 | ⟨b, off, ha, hc⟩
 ·exact .inl h3
 ·refine .inr ⟨b, off, ha, fun i z hi => ?_⟩
  obtain ⟨A, L, C, h4, h5, h6⟩ := hc i z hi
  exact ⟨A, L, C, by rw [hb.cell (old_block h4)]; exact h4, by rw [hb.cell (old_block h5)]; exact h5, h6.below hb⟩
def ShortZ (zs : List Zn) : Prop := ∀ z ∈ zs, Short z.1
theorem ZsAt.zsin {O : Nat → Prop} {W : World} {a : Option Addr} {n c : Nat} {zs : List Zn} (h : ZsAt O W (.slice a n c) zs) (hs : ShortZ zs) : ZsIn W a n zs := by
 obtain ⟨vs, h1, h2, h3, h4, h5, h6⟩ := h
 have hn : n = zs.length := (own_cap h1).2
 refine ⟨hn.symm, by omega, ?_⟩
 rcases h1.2 with ⟨hv, hz⟩ | ⟨g, cap, cur, hv, hb, hg, hc, hcm, hsz, htake⟩
 ·exact .inl (by omega)
 ·cases hv
  refine .inr ⟨g, 0, rfl, fun i z hi => ?_⟩
  have hlt := (List.getElem?_eq_some_iff.1 hi).1
  obtain ⟨u, hu⟩ : ∃ v, vs[i]? = some v := ⟨vs[i]'(by rw [h3]; exact hlt), by simp [h3, hlt]⟩
  have hr := h4 i u z hu hi
  obtain ⟨A, C, rfl⟩ := hr.slice
  obtain ⟨g1, g2⟩ := zcells_get vs zs i _ z hu hi
  have hl := zcells_length vs zs h3
  refine ⟨A, z.1.length, C, ?_, ?_, hr.bsin (hs z (List.mem_of_getElem? hi))⟩
  ·rw [Nat.zero_add, Nat.mul_comm, h1.cellAt _ (by omega)]; exact g1
  ·rw [Nat.zero_add, Nat.mul_comm, h1.cellAt _ (by omega)]; exact g2

set_option maxHeartbeats 1000000 in
theorem sameZones_of (a : Option Addr) (n c : Nat) (b : Option Addr) (m d : Nat) (zs : List Zn) (w : World) (hx : ZsIn w a n zs) (hy : ZsIn w b m zs) :
  Calls Tryz.prog 102 #[.slice a n c, .slice b m d] w fun e w' => e = .returned (.bool true) ∧ ∃ k, w' = w.drewN k := by
 have hnm : n = m := by rw [← hx.1, ← hy.1]
 subst hnm
 have hn : n ≤ 1000 := hx.2.1
 have H : Hid (ZsIn w a n zs ∧ ZsIn w b n zs) := ⟨hx, hy⟩
 clear hx hy
 go_enter Tryz.func102, Tryz.ntmps102
 go_wp2
 go_loopw [5] (fun i wr => ∃ (k d : Nat), k ≤ n ∧ i = .int .i64 k ∧ wr = w.drewN d)
  (fun i _ => n - (intOf i).toNat)
 case atStart => exact ⟨0, 0, by omega, rfl, rfl⟩
 case round =>
  obtain ⟨k, d, hk, rfl, rfl⟩ := hrel
  by_cases hlt : k < n
  ·have hlt' : (k : Int) < n := by omega
   obtain ⟨b1, o1, rfl, hc1⟩ := H.out.1.2.2.resolve_left (by omega)
   obtain ⟨b2, o2, rfl, hc2⟩ := H.out.2.2.2.resolve_left (by omega)
   have hkl : k < zs.length := by rw [H.out.1.1]; exact hlt
   obtain ⟨A1, L1, C1, c1, e1, s1⟩ := hc1 k zs[k] (List.getElem?_eq_getElem hkl)
   obtain ⟨A2, L2, C2, c2, e2, s2⟩ := hc2 k zs[k] (List.getElem?_eq_getElem hkl)
   have HC : Hid (∀ V, Below w.heap.size w V → Calls Tryz.prog 149 #[.slice A1 L1 C1, .slice A2 L2 C2] V fun e w' => e = .returned (.bool true) ∧ ∃ k, w' = V.drewN k) := fun V hV => sameBlocks_of A1 L1 C1 A2 L2 C2 zs[k].1 V (s1.below hV) (s2.below hV)
   obtain ⟨D, eD⟩ : ∃ D, D = zs[k].2 := ⟨_, rfl⟩
   rw [← eD] at e1 e2
   clear hc1 hc2 eD s1 s2 hkl
   go_wp2
   go_region_held3 (fun w' => w'.cell? ⟨b1, o1 + k * 2, none⟩ = some (.slice A1 L1 C1) ∧ w'.cell? ⟨b2, o2 + k * 2, none⟩ = some (.slice A2 L2 C2)) (exact ⟨c1, c2⟩) ((go_at_call 149; refine (HC.out _ (by exact ⟨rfl, rfl, rfl, Nat.le_refl _, fun _ _ => rfl⟩)).mono ?_; rintro e w' ⟨rfl, k2, rfl⟩))
   go_wp2
   go_quiet (fail)
   go_wp2
   go_roundw
   case rel => exact ⟨k + 1, _, by omega, by go_num, rfl⟩
   case measure => simp [intOf]; omega
  ·have hge : (n : Int) ≤ k := by omega
   go_wp2
   go_ret
   exact ⟨rfl, d, rfl⟩
end Go.Proofs.YtncnkpnfmbgifaaGreat

/- What one call of Append does. -/
namespace Go.Proofs.YtncnkpnfmbgifaaGreat
open Go.RowKit Go.Shelf
set_option linter.unusedVariables false
set_option maxRecDepth 4000

theorem results_cell_two {P : Program} {fn : Func} {p u : Tmp} {ty : TypeId} (h : fn.results = #[.cell p ty, .tmp u]) (tmps : Array Value) (w : World) (g : Nat) (L : List Value) (t : TypeId) (d : TypeDesc) (hp : tmps.getD p undef = .pointer (some ⟨g, 0, none⟩))
  (hb : Blk w g L t) (hu : P.underlying ty = some d) (hd : d.isRow = true) (hi : (P.info? ty).map (·.size) = some L.length) (x : Value) (hx : tmps.getD u undef = x) : (results fn tmps).run P w = .ok (.tuple #[.agg L.toArray, x]) w := by
 subst hx
 have hl := run_loadVar_row (P := P) w g t ty L.toArray (0, 0) d hb hu (by cases d <;> first | rfl | cases hd) (by simpa using hi)
 rw [results_cell_tmp h, hp]
 simp [asAddr, hl, Result.andThen]

set_option maxHeartbeats 1000000 in

theorem Tryz.info_addr : (Tryz.prog.info? 49).map (·.size) = some 2 := by kernel_rfl
theorem run_lent {W : World} {a : Option Addr} {n c : Nat} {D : List Int} (hb : BIn W a n D) (hnil : a = none → n = 0 ∧ c = 0) (hn : n ≤ 1000000) :
  ∃ a' c' w', (Builtin.append_ #[43, 43] 43 #[.slice none 0 0, .slice a n c]).run Tryz.prog W = .ok (.slice a' n c') w' ∧ BkAt (fun k => W.heap.size ≤ k) w' (.slice a' n c') D ∧ Below W.heap.size W w' := by
 obtain ⟨i0, hi, hz0, hz1, hz2⟩ := info_parts Tryz.zero_u8
 obtain ⟨hl, hm, hfit, hcell⟩ := id hb
 cases a with
 | none =>
  obtain ⟨rfl, rfl⟩ := hnil rfl
  obtain rfl : D = [] := List.length_eq_zero_iff.1 hl
  exact ⟨none, 0, W, run_append_owned_none (P := Tryz.prog) W W.heap.size 43 43 5 i0 1 Tryz.underlying43 hi _ 0 [] (World.ownsRow_nil _ _ _ _), ⟨World.ownsRow_nil _ _ _ _, (fun c h => by cases h), by simp, by simp⟩, Below.refl _ _⟩
 | some ad =>
  obtain ⟨v', w', h2, h3, h4, _⟩ := run_append_own (P := Tryz.prog) W W.heap.size 43 43 5 i0 (.int .u8 0) 1 1 Tryz.underlying43 hi hz0 hz1 hz2 rfl (by decide) _ 0 [] (World.ownsRow_nil _ _ _ _) ad n c (u8s D) (by rw [u8s_length, hl]; omega) (by
   intro j u hj
   have hjl : j < n := by have := (List.getElem?_eq_some_iff.1 hj).1; rwa [u8s_length, hl] at this
   rcases hcell with hc | ⟨b, off, ha, hc⟩
   ·omega
   ·cases ha
    rw [Addr.add_mid, hc j hjl, ← hj]
    simp [u8s, List.getD, hl, hjl]) (u8s_one _) (by unfold maxLen; omega) (by omega) (Nat.le_refl _)
  have h3' : w'.ownsRow W.heap.size 5 1 v' n (u8s D) := by simpa using h3
  obtain ⟨a', c', rfl⟩ := own_slice h3'
  exact ⟨a', c', w', h2, ⟨by rw [hl]; exact own_zero h3', fun k hk => (h3'.lt k hk).1, hfit, by omega⟩, (Below.refl _ _).grown h4 (Nat.le_refl _) (fun k e => by cases e)⟩

def appOk (s : Sh) (zs : List Zn) (zn : Int) (D : List Int) : Prop := 0 ≤ zn ∧ zn ≤ (zs.length : Int) - 1 ∧ (D.length : Int) = s.b
instance (s : Sh) (zs : List Zn) (zn : Int) (D : List Int) : Decidable (appOk s zs zn D) := by unfold appOk; infer_instance
def appFull (s : Sh) (zs : List Zn) (zn : Int) : Prop := s.zb ≤ ((atZ zs zn).1.length : Int)
instance (s : Sh) (zs : List Zn) (zn : Int) : Decidable (appFull s zs zn) := by unfold appFull; infer_instance
def appE (s : Sh) (zs : List Zn) (zn : Int) (D : List Int) : Int := if appOk s zs zn D then (if appFull s zs zn then 101 else 0) else 100
def appA (s : Sh) (zs : List Zn) (zn : Int) (D : List Int) : Int × Int := if appOk s zs zn D then (if appFull s zs zn then (0, 0) else (zn, (atZ zs zn).1.length)) else (0, 0)
def appZ (s : Sh) (zs : List Zn) (zn : Int) (D : List Int) : List Zn := if appOk s zs zn D then (if appFull s zs zn then zs else zs.set zn.toNat ((atZ zs zn).1 ++ [D], (atZ zs zn).2)) else zs

section
variable {O : Nat → Prop} {W : World} {p : Nat} {s : Sh} {zs : List Zn}
def Apped (T : TypeId) (k : IntKind) (O : Nat → Prop) (W : World) (p : Nat) (s : Sh) (zs : List Zn) (zn : Int) (D : List Int) (e : Ending) (w' : World) : Prop :=
 e = .returned (.tuple #[.agg #[.int .i64 (appA s zs zn D).1, .int .i64 (appA s zs zn D).2], .int k (appE s zs zn D)]) ∧ Step T O W p s (appZ s zs zn D) w'
theorem apped_no {T : TypeId} {k : IntKind} {zn : Int} {D : List Int} {q : Nat} {W1 : World} (h : ¬ appOk s zs zn D) (hd : Dv T O W p s zs) (hb : Below W.heap.size W W1) : Apped T k O W p s zs zn D (.returned (.tuple #[.agg #[.int .i64 0, .int .i64 0], .int k 100])) W1 := by
 obtain ⟨g, c, vs, hv⟩ := hd
 unfold Apped appA appE appZ
 rw [if_neg h, if_neg h, if_neg h]
 exact ⟨rfl, step_of ⟨g, c, vs, hv.under hb⟩ (below_out _ hb)⟩
theorem apped_full {T : TypeId} {k : IntKind} {zn : Int} {D : List Int} {q : Nat} {W1 : World} (h : appOk s zs zn D) (hf : appFull s zs zn) (hd : Dv T O W p s zs) (hb : Below W.heap.size W W1) : Apped T k O W p s zs zn D (.returned (.tuple #[.agg #[.int .i64 0, .int .i64 0], .int k 101])) W1 := by
 obtain ⟨g, c, vs, hv⟩ := hd
 unfold Apped appA appE appZ
 rw [if_pos h, if_pos hf, if_pos h, if_pos hf, if_pos h, if_pos hf]
 exact ⟨rfl, step_of ⟨g, c, vs, hv.under hb⟩ (below_out _ hb)⟩
theorem DvV.cell {T : TypeId} {g c : Nat} {vs : List Value} {q : Nat} {L : List Value} {t : TypeId} (h : DvV T O W p s zs g c vs) (hq : Blk W q L t) (h1 : t ≠ T) (h2 : t ≠ 120) (h3 : t ≠ 43) (h4 : t ≠ 5) (i : Nat) (v : Value) : DvV T O (W.setCell ⟨q, i, none⟩ v) p s zs g c vs := by
 obtain ⟨L', hL⟩ := own_blk h.hg
 exact ⟨h.hp.set_other (blk_ne h.hp hq (fun e => h1 e.symm)) _, (out_cell W q i v).own h.hg (fun r e e' => by cases e; subst e'; exact blk_ne hq hL h2 rfl), h.op, h.og, h.vl, fun j u z e1 e2 => out_row hq h3 h4 i v (h.rows j u z e1 e2), h.ap, h.small, h.ty⟩
theorem apped_ok {T : TypeId} {k : IntKind} {i : Nat} {z : Zn} {D : List Int} {q : Nat} {W1 V : World} {g cz : Nat} (h : appOk s zs (i : Int) D) (hf : ¬ appFull s zs (i : Int)) (hz : zs[i]? = some z) (hb : Below q W W1) (hq : q = W.heap.size)
  (hd : ∃ vs', DvV T (fun x => O x ∨ W1.heap.size ≤ x) V p s (zs.set i (z.1 ++ [D], z.2)) g cz vs') (ho : Out O W1 V) (ha : Blk V q [.int .i64 0, .int .i64 0] 49) (hT : T ≠ 49 := by decide) :
  Apped T k O W p s zs (i : Int) D (.returned (.tuple #[.agg #[.int .i64 i, .int .i64 (z.1.length : Nat)], .int k 0])) ((V.setCell ⟨q, 0, none⟩ (.int .i64 i)).setCell ⟨q, 1, none⟩ (.int .i64 (z.1.length : Nat))) := by
 unfold Apped appA appE appZ
 rw [if_pos h, if_neg hf, if_pos h, if_neg hf, if_pos h, if_neg hf, atZ_in hz]
 refine ⟨rfl, ?_⟩
 obtain ⟨vs', hv⟩ := hd
 have h1 := hv.cell ha (fun e => hT e.symm) (by decide) (by decide) (by decide) 0 (.int .i64 i)
 have h2 := h1.cell (ha.set 0 _) (fun e => hT e.symm) (by decide) (by decide) (by decide) 1 (.int .i64 (z.1.length : Nat))
 subst hq
 have hoW : Out O W V := (below_out O hb).trans ho (fun x e => .inl e)
 have hoF : Out O W ((V.setCell ⟨W.heap.size, 0, none⟩ (.int .i64 i)).setCell ⟨W.heap.size, 1, none⟩ (.int .i64 (z.1.length : Nat))) := (hoW.setCell (p := ⟨W.heap.size, 0, none⟩) (.inr (Nat.le_refl _)) _).setCell (p := ⟨W.heap.size, 1, none⟩) (.inr (Nat.le_refl _)) _
 refine ⟨⟨g, cz, vs', ?_⟩, hoF⟩
 rw [Int.toNat_natCast]
 exact h2.mono (fun x hx hlt => by
  rcases hx with hx | hx
  ·exact .inl hx
  ·exact .inr ⟨by have := hb.size; omega, hlt⟩)
theorem addr_blk {W : World} {q : Nat} (hq : q = W.heap.size) : Blk (W.alloc (.cells #[.int .i64 0, .int .i64 0] 49)) q [.int .i64 0, .int .i64 0] 49 ∧ Below q W (W.alloc (.cells #[.int .i64 0, .int .i64 0] 49)) := ⟨Blk.new' hq.symm rfl, (Below.refl _ _).alloc (by omega) _⟩

structure AppM (T : TypeId) (O : Nat → Prop) (W1 : World) (p : Nat) (s : Sh) (zs : List Zn) (g cz i : Nat) (z : Zn) (ua : Option Addr) (uc : Nat) (a : Option Addr) (n c : Nat) (D : List Int) (a' : Option Addr) (c' : Nat) (w2 : World) (a3 : Option Addr) (c3 : Nat) (w3 : World) : Prop where
 run1 : (Builtin.append_ #[43, 43] 43 #[.slice none 0 0, .slice a n c]).run Tryz.prog W1.drew = .ok (.slice a' n c') w2
 run2 : (Builtin.append_ #[42, 42] 42 #[.slice ua z.1.length uc, .slice (some ⟨w2.heap.size, 0, none⟩) 1 1]).run Tryz.prog (w2.alloc (.cells #[.slice a' n c'] 43)) = .ok (.slice a3 (z.1.length + 1) c3) w3
 c2 : w2.cell? ⟨g, i * 2, none⟩ = some (.slice ua z.1.length uc)
 c2a : (w2.alloc (.cells #[.slice a' n c'] 43)).cell? ⟨g, i * 2, none⟩ = some (.slice ua z.1.length uc)
 c3' : w3.cell? ⟨g, i * 2, none⟩ = some (.slice ua z.1.length uc)
 fz : w3.frozen? ⟨g, i * 2, none⟩ = false
 dev : ∃ vs', DvV T (fun x => O x ∨ W1.heap.size ≤ x) (w3.setCell ⟨g, i * 2, none⟩ (.slice a3 (z.1.length + 1) c3)) p s (zs.set i (z.1 ++ [D], z.2)) g cz vs'
 out : Out O W1 (w3.setCell ⟨g, i * 2, none⟩ (.slice a3 (z.1.length + 1) c3))
 blk : ∀ {q : Nat} {L : List Value} {t : TypeId}, Blk W1 q L t → t ≠ 43 → t ≠ 120 → Blk (w3.setCell ⟨g, i * 2, none⟩ (.slice a3 (z.1.length + 1) c3)) q L t
theorem app_mem {T : TypeId} {g cz : Nat} {vs : List Value} {i : Nat} {z : Zn} {ua : Option Addr} {uc : Nat} {a : Option Addr} {n c : Nat} {D : List Int} (hv : DvV T O W p s zs g cz vs) (hz : zs[i]? = some z) (hu : vs[i]? = some (.slice ua z.1.length uc)) (hb : BIn W a n D) (hnil : a = none → n = 0 ∧ c = 0) (hn : n ≤ 100000) (hl : z.1.length + 1 ≤ 100000) :
  ∃ a' c' w2 a3 c3 w3, AppM T O W p s zs g cz i z ua uc a n c D a' c' w2 a3 c3 w3 := by
 have hbd : Below W.heap.size W W.drew := (Below.refl _ _).drew
 obtain ⟨a', c', w2, r1, bk, bl⟩ := run_lent (W := W.drew) (hb.below hbd) hnil (by omega : n ≤ 1000000)
 have bl' : Below W.heap.size W w2 := hbd.trans bl
 have hv2 := hv.under bl'
 have hO : ∀ x, W.heap.size ≤ x → (fun x => O x ∨ W.heap.size ≤ x) x := fun x h => .inr h
 have row2 := (hv2.rows i _ z hu hz).mono (O' := fun x => O x ∨ W.heap.size ≤ x) (fun x h _ => .inl h)
 have bk2 := bk.mono (O' := fun x => O x ∨ W.heap.size ≤ x) (fun x h _ => .inr h)
 obtain ⟨a3, c3, w3, r2, row3, hg3, hf3⟩ := app_row row2 bk2 rfl hl (fun k hk => .inr (by have := bl'.size; omega))
 obtain ⟨uv, u1, u2, _⟩ := hv2.rows i _ z hu hz
 have ho23 : Out (fun x => (Value.slice ua z.1.length uc).ownBlock = some x) w2 w3 := ((Out.refl _ _).alloc _).grown hg3 (fun k e => .inl e)
 obtain ⟨k1, k2, k3, hd3⟩ := hv2.upd (O1 := fun x => O x ∨ W.heap.size ≤ x) hz hu ho23 (fun x h => .inl h) row3 hf3
 obtain ⟨ua', uc', hu', _, z0, z1⟩ := hv2.at hz
 have : ua' = ua ∧ uc' = uc := by rw [hu] at hu'; cases hu'; exact ⟨rfl, rfl⟩
 obtain ⟨rfl, rfl⟩ := this
 obtain ⟨Lg, hLg⟩ := own_blk hv2.hg
 refine ⟨a', c', w2, a3, c3, w3, ⟨r1, r2, z0, ?_, k1, k3 _, ⟨_, hd3⟩, ?_, ?_⟩⟩
 ·rw [(Below.refl w2.heap.size w2 |>.alloc (Nat.le_refl _) _).cell (old_block z0)]; exact z0
 ·have h1 : Out O W w2 := below_out _ bl'
  have h2 : Out O W w3 := h1.trans ho23 (fun x e => .inl (u2 x e))
  exact h2.setCell (p := ⟨g, i * 2, none⟩) (.inl hv.og) _
 ·intro q L t hq ht hz'
  have q2 := hq.below bl' hq.lt
  have q3 : Blk w3 q L t := ho23.blk q2 (blk_not_row q2 ht u1)
  refine q3.set_other ?_ _
  intro e
  have : q = g := e
  subst this
  exact blk_ne q2 hLg hz' rfl

set_option maxHeartbeats 4000000 in
theorem append_of (zn : Int) (a : Option Addr) (n c : Nat) (D : List Int) (hd : Dv 122 O W p s zs) (hw : Wf s zs) (hb : BIn W a n D) (hnil : a = none → n = 0 ∧ c = 0) (hn : n ≤ 100000) :
  Calls Tryz.prog 117 #[.pointer (some ⟨p, 0, none⟩), .int .i64 zn, .slice a n c] W (Apped 122 .u16 O W p s zs zn D) := by
 obtain ⟨q, hq⟩ : ∃ q, q = W.heap.size := ⟨_, rfl⟩
 obtain ⟨ab, abel⟩ := addr_blk hq
 have hd1 : Dv 122 O (W.alloc (.cells #[.int .i64 0, .int .i64 0] 49)) p s zs := by
  obtain ⟨g, c, vs, hv⟩ := hd; exact ⟨g, c, vs, hv.under (by rw [← hq]; exact abel)⟩
 have hb1 : BIn (W.alloc (.cells #[.int .i64 0, .int .i64 0] 49)) a n D := hb.alloc _
 have hl := hb.1
 go_enter Tryz.func117, Tryz.ntmps117
 go_upto_region 1 with fail
 rw [← hq]
 generalize hW1 : World.alloc _ _ = W1 at *
 clear hW1
 have hh := has_of zn hd1
 have e0 : W1.cell? ⟨q, 0, none⟩ = some (.int .i64 0) := ab.cell 0
 have e1 : W1.cell? ⟨q, 1, none⟩ = some (.int .i64 0) := ab.cell 1
 have f0 := ab.frozen 0
 have f1 := ab.frozen 1
 have HA : Hid (Blk W1 q [.int .i64 0, .int .i64 0] 49 ∧ Below q W W1 ∧ q = W.heap.size) := ⟨ab, abel, hq⟩
 have HD : Hid (Dv 122 O W p s zs ∧ Wf s zs ∧ Dv 122 O W1 p s zs) := ⟨hd, hw, hd1⟩
 have HI : Hid (BIn W1 a n D ∧ (a = none → n = 0 ∧ c = 0) ∧ n ≤ 100000 ∧ D.length = n) := ⟨hb1, hnil, hn, hl⟩
 clear ab abel hq hd hw hb hnil hn hb1 hl
 have fin : Hid (∀ (x y : Int), Blk ((W1.setCell ⟨q, 0, none⟩ (.int .i64 x)).setCell ⟨q, 1, none⟩ (.int .i64 y)) q [.int .i64 x, .int .i64 y] 49 ∧ Below W.heap.size W ((W1.setCell ⟨q, 0, none⟩ (.int .i64 x)).setCell ⟨q, 1, none⟩ (.int .i64 y))) := by
  intro x y
  refine ⟨(HA.out.1.set 0 _).set 1 _, ?_⟩
  rw [← HA.out.2.2]
  exact (HA.out.2.1.setCell (p := ⟨q, 0, none⟩) (Nat.le_refl _) _).setCell (p := ⟨q, 1, none⟩) (Nat.le_refl _) _
 rcases zone_cases zs zn with ⟨i, z, rfl, hz, hi, hbb⟩ | ⟨hno, hbb⟩
 ·rw [hbb] at hh
  have HH : Hid (Calls Tryz.prog 62 #[.pointer (some ⟨p, 0, none⟩), .int .i64 (i : Int)] W1 fun e w' => e = .returned (.bool true) ∧ w' = W1) := hh
  obtain ⟨g, cz, vs, hv⟩ := hd1
  obtain ⟨ua, uc, hu, hr, z0, z1⟩ := hv.at hz
  obtain ⟨p0, p1, p2, p3, c4⟩ := hv.pcell
  have hi' : (i : Int) < zs.length := by omega
  clear hh hbb
  by_cases hlen : (n : Int) = s.b
  ·have hok : Hid (appOk s zs i D) := by
    show appOk s zs i D
    exact ⟨by omega, by omega, by rw [HI.out.2.2.2]; exact hlen⟩
   have hzw := HD.out.2.1.zone z (List.mem_of_getElem? hz)
   by_cases hfull : s.zb ≤ (z.1.length : Int)
   ·have heq : (z.1.length : Int) = s.zb := by omega
    have hff : Hid (appFull s zs i) := by
     show appFull s zs i
     unfold appFull; rw [atZ_in hz]; exact hfull
    have b1 : ((n : Int) != s.b) = false := by simp [hlen]
    have b2 : ((z.1.length : Int) == s.zb) = true := by simp [heq]
    clear hfull hzw hv hr hu hz
    go_wp2_with (go_at_call 62; refine HH.out.mono ?_; rintro e W1 ⟨rfl, rfl⟩)
    refine bodyPost_ret (results_cell_two (p := 6) (u := 7) (ty := 49) rfl _ _ q _ _ _ rfl (fin.out 0 0).1 Tryz.underlying49 rfl Tryz.info_addr _ rfl) rfl ?_
    exact apped_full (q := q) hok.out hff.out HD.out.1 (fin.out 0 0).2
   ·have hne : ¬ (z.1.length : Int) = s.zb := by omega
    have hff : Hid (¬ appFull s zs i) := by
     show ¬ appFull s zs i
     unfold appFull; rw [atZ_in hz]; exact hfull
    have b1 : ((n : Int) != s.b) = false := by simp [hlen]
    have b2 : ((z.1.length : Int) == s.zb) = false := by simp [hne]
    have hr4 := HD.out.2.1.right.2.2.2.1
    obtain ⟨a', c', w2, a3, c3, w3, M⟩ := app_mem hv hz hu HI.out.1 HI.out.2.1 HI.out.2.2.1 (by omega)
    have HM : Hid (AppM 122 O W1 p s zs g cz i z ua uc a n c D a' c' w2 a3 c3 w3 ∧ zs[i]? = some z) := ⟨M, hz⟩
    have m2 := M.c2
    have m2a := M.c2a
    have m3 := M.c3'
    have mf := M.fz
    have aq := M.blk HA.out.1 (by decide) (by decide)
    clear M hfull hzw hv hr hu hz hne hr4
    go_upto_region 7 with (go_at_call 62; refine HH.out.mono ?_; rintro e W1 ⟨rfl, rfl⟩)
    refine wp_region_noPanic ?_
    go_region_law (first
     | (refine step_append_run rfl (.const (.slice none 0 0)) (.tmp 49) 43 43 rfl _ _ rfl rfl _ _ HM.out.1.run1 ?_)
     | (refine step_append_run rfl (.tmp 48) (.tmp 51) 42 42 rfl _ _ rfl rfl _ _ HM.out.1.run2 ?_))
    all_goals
     have HV : Hid ((∃ vs', DvV 122 (fun x => O x ∨ W1.heap.size ≤ x) (w3.setCell ⟨g, i * 2, none⟩ (.slice a3 (z.1.length + 1) c3)) p s (zs.set i (z.1 ++ [D], z.2)) g cz vs') ∧ Out O W1 (w3.setCell ⟨g, i * 2, none⟩ (.slice a3 (z.1.length + 1) c3)) ∧ Blk (w3.setCell ⟨g, i * 2, none⟩ (.slice a3 (z.1.length + 1) c3)) q [.int .i64 0, .int .i64 0] 49 ∧ zs[i]? = some z) := ⟨HM.out.1.dev, HM.out.1.out, aq, HM.out.2⟩
     clear HM m2 m2a m3 mf e0 e1 f0 f1 fin
     generalize World.setCell w3 _ _ = V at HV aq ⊢
     have e0 : V.cell? ⟨q, 0, none⟩ = some (.int .i64 0) := aq.cell 0
     have e1 : V.cell? ⟨q, 1, none⟩ = some (.int .i64 0) := aq.cell 1
     have f0 := aq.frozen 0
     have f1 := aq.frozen 1
     clear aq
     refine NoPanic.normal ?_
     go_wp2
     refine bodyPost_ret (results_cell_two (p := 6) (u := 7) (ty := 49) rfl _ _ q _ _ _ rfl ((HV.out.2.2.1.set 0 _).set 1 _) Tryz.underlying49 rfl Tryz.info_addr _ rfl) rfl ?_
     exact apped_ok hok.out hff.out HV.out.2.2.2 HA.out.2.1 HA.out.2.2 HV.out.1 HV.out.2.1 HV.out.2.2.1
  ·have hok : Hid (¬ appOk s zs i D) := by
    show ¬ appOk s zs i D
    rintro ⟨_, _, h⟩
    rw [HI.out.2.2.2] at h
    exact hlen h
   have b1 : ((n : Int) != s.b) = true := by simp [hlen]
   clear hv hr hu hz
   go_wp2_with (go_at_call 62; refine HH.out.mono ?_; rintro e W1 ⟨rfl, rfl⟩)
   refine bodyPost_ret (results_cell_two (p := 6) (u := 7) (ty := 49) rfl _ _ q _ _ _ rfl (fin.out 0 0).1 Tryz.underlying49 rfl Tryz.info_addr _ rfl) rfl ?_
   exact apped_no (q := q) hok.out HD.out.1 (fin.out 0 0).2
 ·rw [hbb] at hh
  have HH : Hid (Calls Tryz.prog 62 #[.pointer (some ⟨p, 0, none⟩), .int .i64 zn] W1 fun e w' => e = .returned (.bool false) ∧ w' = W1) := hh
  have hok : Hid (¬ appOk s zs zn D) := by
   show ¬ appOk s zs zn D
   rintro ⟨h1, h2, _⟩
   exact hno ⟨h1, h2⟩
  clear hh hbb hno hd1
  go_wp2_with (go_at_call 62; refine HH.out.mono ?_; rintro e W1 ⟨rfl, rfl⟩)
  refine bodyPost_ret (results_cell_two (p := 6) (u := 7) (ty := 49) rfl _ _ q _ _ _ rfl (fin.out 0 0).1 Tryz.underlying49 rfl Tryz.info_addr _ rfl) rfl ?_
  exact apped_no (q := q) hok.out HD.out.1 (fin.out 0 0).2
end
end Go.Proofs.YtncnkpnfmbgifaaGreat
