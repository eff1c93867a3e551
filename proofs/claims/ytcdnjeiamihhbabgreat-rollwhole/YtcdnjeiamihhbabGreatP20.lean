/- P20 -/
import Derived.Test.YtcdnjeiamihhbabGreatP19
set_option linter.unusedVariables false
set_option maxRecDepth 4000
namespace Go.Proofs.YtcdnjeiamihhbabGreat
open Go.RowKit Go.Shelf
section
theorem results_cell_two {P : Program} {fn : Func} {p u : Tmp} {ty : TypeId} (h : fn.results = #[.cell p ty, .tmp u]) (tmps : Array Value) (w : World) (g : Nat) (L : List Value) (t : TypeId) (d : TypeDesc) (hp : tmps.getD p undef = .pointer (some ⟨g, 0, none⟩))
  (hb : Blk w g L t) (hu : P.underlying ty = some d) (hd : d.isRow = true) (hi : (P.info? ty).map (·.size) = some L.length) (x : Value) (hx : tmps.getD u undef = x) : (results fn tmps).run P w = .ok (.tuple #[.agg L.toArray, x]) w := by
 subst hx
 have hl := run_loadVar_row (P := P) w g t ty L.toArray (0, 0) d hb hu (by cases d <;> first | rfl | cases hd) (by simpa using hi)
 rw [results_cell_tmp h, hp]
 simp [asAddr, hl, Result.andThen]
set_option maxHeartbeats 1000000 in
theorem Tryz.info_addr : (Tryz.prog.info? 55).map (·.size) = some 2 := by kernel_rfl
/-- What an append of bytes to nil makes. -/
theorem run_lent {W : World} {a : Option Addr} {n c : Nat} {D : List Int} (hb : BIn W a n D) (hnil : a = none → n = 0 ∧ c = 0) (hn : n ≤ 1000000) :
  ∃ a' c' w', (Builtin.append_ #[51, 51] 51 #[.slice none 0 0, .slice a n c]).run Tryz.prog W = .ok (.slice a' n c') w' ∧ BkAt (fun k => W.heap.size ≤ k) w' (.slice a' n c') D ∧ Below W.heap.size W w' := by
 obtain ⟨i0, hi, hz0, hz1, hz2⟩ := info_parts Tryz.zero_u8
 obtain ⟨hl, hm, hfit, hcell⟩ := id hb
 cases a with
 | none =>
  obtain ⟨rfl, rfl⟩ := hnil rfl
  obtain rfl : D = [] := List.length_eq_zero_iff.1 hl
  exact ⟨none, 0, W, run_append_owned_none (P := Tryz.prog) W W.heap.size 51 51 5 i0 1 Tryz.underlying51 hi _ 0 [] (World.ownsRow_nil _ _ _ _), ⟨World.ownsRow_nil _ _ _ _, (fun c h => by cases h), by simp, by simp⟩, Below.refl _ _⟩
 | some ad =>
  obtain ⟨v', w', h2, h3, h4, _⟩ := run_append_own (P := Tryz.prog) W W.heap.size 51 51 5 i0 (.int .u8 0) 1 1 Tryz.underlying51 hi hz0 hz1 hz2 rfl (by decide) _ 0 [] (World.ownsRow_nil _ _ _ _) ad n c (u8s D) (by rw [u8s_length, hl]; omega) (by
   intro j u hj
   have hjl : j < n := by have := (List.getElem?_eq_some_iff.1 hj).1; rwa [u8s_length, hl] at this
   rcases hcell with hc | ⟨b, off, ha, hc⟩
   ·omega
   ·cases ha
    rw [Addr.add_mid, hc j hjl, ← hj]
    simp [u8s, List.getD, hl, hjl]) (u8s_one _) (by unfold maxLen; omega) (by omega) (Nat.le_refl _)
  have h3' : w'.ownsRow W.heap.size 5 1 v' n (u8s D) := by simpa using h3
  obtain ⟨a', c', rfl⟩ := own_slice h3'
  exact ⟨a', c', w', h2, ⟨by rw [hl]; exact own_zero h3', fun k hk => (h3'.lt k hk).1, hfit, by omega⟩, (Below.refl _ _).grown h4 (Nat.le_refl _) (fun k e => by cases e)⟩
/-- What Append answers: the place, the error, what the device holds. -/
def appOk (s : Sh) (zs : List Zn) (zn : Int) (D : List Int) : Prop := 0 ≤ zn ∧ zn ≤ (zs.length : Int) - 1 ∧ (D.length : Int) = s.b
instance (s : Sh) (zs : List Zn) (zn : Int) (D : List Int) : Decidable (appOk s zs zn D) := by unfold appOk; infer_instance
def appFull (s : Sh) (zs : List Zn) (zn : Int) : Prop := s.zb ≤ ((atZ zs zn).1.length : Int)
instance (s : Sh) (zs : List Zn) (zn : Int) : Decidable (appFull s zs zn) := by unfold appFull; infer_instance
def appE (s : Sh) (zs : List Zn) (zn : Int) (D : List Int) : Int := if appOk s zs zn D then (if appFull s zs zn then 101 else 0) else 100
def appA (s : Sh) (zs : List Zn) (zn : Int) (D : List Int) : Int × Int := if appOk s zs zn D then (if appFull s zs zn then (0, 0) else (zn, (atZ zs zn).1.length)) else (0, 0)
def appZ (s : Sh) (zs : List Zn) (zn : Int) (D : List Int) : List Zn := if appOk s zs zn D then (if appFull s zs zn then zs else zs.set zn.toNat ((atZ zs zn).1 ++ [D], (atZ zs zn).2)) else zs
section
variable {O : Nat → Prop} {W : World} {p : Nat} {s : Sh} {zs : List Zn}
def Apped (T : TypeId) (k : IntKind) (O : Nat → Prop) (W : World) (p : Nat) (s : Sh) (zs : List Zn) (zn : Int) (D : List Int) (e : Ending) (w' : World) : Prop :=
 e = .returned (.tuple #[.agg #[.int .i64 (appA s zs zn D).1, .int .i64 (appA s zs zn D).2], .int k (appE s zs zn D)]) ∧ Step T O W p s (appZ s zs zn D) w'
theorem apped_no {T : TypeId} {k : IntKind} {zn : Int} {D : List Int} {q : Nat} {W1 : World} (h : ¬ appOk s zs zn D) (hd : Dv T O W p s zs) (hb : Below W.heap.size W W1) : Apped T k O W p s zs zn D (.returned (.tuple #[.agg #[.int .i64 0, .int .i64 0], .int k 100])) W1 := by
 obtain ⟨g, c, vs, hv⟩ := hd
 unfold Apped appA appE appZ
 rw [if_neg h, if_neg h, if_neg h]
 exact ⟨rfl, step_of ⟨g, c, vs, hv.under hb⟩ (below_out _ hb)⟩
theorem apped_full {T : TypeId} {k : IntKind} {zn : Int} {D : List Int} {q : Nat} {W1 : World} (h : appOk s zs zn D) (hf : appFull s zs zn) (hd : Dv T O W p s zs) (hb : Below W.heap.size W W1) : Apped T k O W p s zs zn D (.returned (.tuple #[.agg #[.int .i64 0, .int .i64 0], .int k 101])) W1 := by
 obtain ⟨g, c, vs, hv⟩ := hd
 unfold Apped appA appE appZ
 rw [if_pos h, if_pos hf, if_pos h, if_pos hf, if_pos h, if_pos hf]
 exact ⟨rfl, step_of ⟨g, c, vs, hv.under hb⟩ (below_out _ hb)⟩
/-- A cell of another type is written. -/
theorem DvV.cell {T : TypeId} {g c : Nat} {vs : List Value} {q : Nat} {L : List Value} {t : TypeId} (h : DvV T O W p s zs g c vs) (hq : Blk W q L t) (h1 : t ≠ T) (h2 : t ≠ 102) (h3 : t ≠ 51) (h4 : t ≠ 5) (i : Nat) (v : Value) : DvV T O (W.setCell ⟨q, i, none⟩ v) p s zs g c vs := by
 obtain ⟨L', hL⟩ := own_blk h.hg
 exact ⟨h.hp.set_other (blk_ne h.hp hq (fun e => h1 e.symm)) _, (out_cell W q i v).own h.hg (fun r e e' => by cases e; subst e'; exact blk_ne hq hL h2 rfl), h.op, h.og, h.vl, fun j u z e1 e2 => out_row hq h3 h4 i v (h.rows j u z e1 e2), h.ap, h.small, h.ty⟩
theorem apped_ok {T : TypeId} {k : IntKind} {i : Nat} {z : Zn} {D : List Int} {q : Nat} {W1 V : World} {g cz : Nat} (h : appOk s zs (i : Int) D) (hf : ¬ appFull s zs (i : Int)) (hz : zs[i]? = some z) (hb : Below q W W1) (hq : q = W.heap.size)
  (hd : ∃ vs', DvV T (fun x => O x ∨ W1.heap.size ≤ x) V p s (zs.set i (z.1 ++ [D], z.2)) g cz vs') (ho : Out O W1 V) (ha : Blk V q [.int .i64 0, .int .i64 0] 55) (hT : T ≠ 55 := by decide) :
  Apped T k O W p s zs (i : Int) D (.returned (.tuple #[.agg #[.int .i64 i, .int .i64 (z.1.length : Nat)], .int k 0])) ((V.setCell ⟨q, 0, none⟩ (.int .i64 i)).setCell ⟨q, 1, none⟩ (.int .i64 (z.1.length : Nat))) := by
 unfold Apped appA appE appZ
 rw [if_pos h, if_neg hf, if_pos h, if_neg hf, if_pos h, if_neg hf, atZ_in hz]
 refine ⟨rfl, ?_⟩
 obtain ⟨vs', hv⟩ := hd
 have h1 := hv.cell ha (fun e => hT e.symm) (by decide) (by decide) (by decide) 0 (.int .i64 i)
 have h2 := h1.cell (ha.set 0 _) (fun e => hT e.symm) (by decide) (by decide) (by decide) 1 (.int .i64 (z.1.length : Nat))
 subst hq
 have hoW : Out O W V := (below_out O hb).trans ho (fun x e => .inl e)
 have hoF : Out O W ((V.setCell ⟨W.heap.size, 0, none⟩ (.int .i64 i)).setCell ⟨W.heap.size, 1, none⟩ (.int .i64 (z.1.length : Nat))) := (hoW.setCell (p := ⟨W.heap.size, 0, none⟩) (.inr (Nat.le_refl _)) _).setCell (p := ⟨W.heap.size, 1, none⟩) (.inr (Nat.le_refl _)) _
 refine ⟨⟨g, cz, vs', ?_⟩, hoF⟩
 rw [Int.toNat_natCast]
 exact h2.mono (fun x hx hlt => by
  rcases hx with hx | hx
  ·exact .inl hx
  ·exact .inr ⟨by have := hb.size; omega, hlt⟩)
theorem addr_blk {W : World} {q : Nat} (hq : q = W.heap.size) : Blk (W.alloc (.cells #[.int .i64 0, .int .i64 0] 55)) q [.int .i64 0, .int .i64 0] 55 ∧ Below q W (W.alloc (.cells #[.int .i64 0, .int .i64 0] 55)) := ⟨Blk.new' hq.symm rfl, (Below.refl _ _).alloc (by omega) _⟩
structure AppM (T : TypeId) (O : Nat → Prop) (W1 : World) (p : Nat) (s : Sh) (zs : List Zn) (g cz i : Nat) (z : Zn) (ua : Option Addr) (uc : Nat) (a : Option Addr) (n c : Nat) (D : List Int) (a' : Option Addr) (c' : Nat) (w2 : World) (a3 : Option Addr) (c3 : Nat) (w3 : World) : Prop where
 run1 : (Builtin.append_ #[51, 51] 51 #[.slice none 0 0, .slice a n c]).run Tryz.prog W1.drew = .ok (.slice a' n c') w2
 run2 : (Builtin.append_ #[100, 100] 100 #[.slice ua z.1.length uc, .slice (some ⟨w2.heap.size, 0, none⟩) 1 1]).run Tryz.prog (w2.alloc (.cells #[.slice a' n c'] 51)) = .ok (.slice a3 (z.1.length + 1) c3) w3
 c2 : w2.cell? ⟨g, i * 2, none⟩ = some (.slice ua z.1.length uc)
 c2a : (w2.alloc (.cells #[.slice a' n c'] 51)).cell? ⟨g, i * 2, none⟩ = some (.slice ua z.1.length uc)
 c3' : w3.cell? ⟨g, i * 2, none⟩ = some (.slice ua z.1.length uc)
 fz : w3.frozen? ⟨g, i * 2, none⟩ = false
 dev : ∃ vs', DvV T (fun x => O x ∨ W1.heap.size ≤ x) (w3.setCell ⟨g, i * 2, none⟩ (.slice a3 (z.1.length + 1) c3)) p s (zs.set i (z.1 ++ [D], z.2)) g cz vs'
 out : Out O W1 (w3.setCell ⟨g, i * 2, none⟩ (.slice a3 (z.1.length + 1) c3))
 blk : ∀ {q : Nat} {L : List Value} {t : TypeId}, Blk W1 q L t → t ≠ 51 → t ≠ 102 → Blk (w3.setCell ⟨g, i * 2, none⟩ (.slice a3 (z.1.length + 1) c3)) q L t
theorem app_mem {T : TypeId} {g cz : Nat} {vs : List Value} {i : Nat} {z : Zn} {ua : Option Addr} {uc : Nat} {a : Option Addr} {n c : Nat} {D : List Int} (hv : DvV T O W p s zs g cz vs) (hz : zs[i]? = some z) (hu : vs[i]? = some (.slice ua z.1.length uc)) (hb : BIn W a n D) (hnil : a = none → n = 0 ∧ c = 0) (hn : n ≤ 100000) (hl : z.1.length + 1 ≤ 100000) :
  ∃ a' c' w2 a3 c3 w3, AppM T O W p s zs g cz i z ua uc a n c D a' c' w2 a3 c3 w3 := by
 have hbd : Below W.heap.size W W.drew := (Below.refl _ _).drew
 obtain ⟨a', c', w2, r1, bk, bl⟩ := run_lent (W := W.drew) (hb.below hbd) hnil (by omega : n ≤ 1000000)
 have bl' : Below W.heap.size W w2 := hbd.trans bl
 have hv2 := hv.under bl'
 have hO : ∀ x, W.heap.size ≤ x → (fun x => O x ∨ W.heap.size ≤ x) x := fun x h => .inr h
 have row2 := (hv2.rows i _ z hu hz).mono (O' := fun x => O x ∨ W.heap.size ≤ x) (fun x h _ => .inl h)
 have bk2 := bk.mono (O' := fun x => O x ∨ W.heap.size ≤ x) (fun x h _ => .inr h)
 obtain ⟨a3, c3, w3, r2, row3, hg3, hf3⟩ := app_row row2 bk2 rfl hl (fun k hk => .inr (by have := bl'.size; omega))
 obtain ⟨uv, u1, u2, _⟩ := hv2.rows i _ z hu hz
 have ho23 : Out (fun x => (Value.slice ua z.1.length uc).ownBlock = some x) w2 w3 := ((Out.refl _ _).alloc _).grown hg3 (fun k e => .inl e)
 obtain ⟨k1, k2, k3, hd3⟩ := hv2.upd (O1 := fun x => O x ∨ W.heap.size ≤ x) hz hu ho23 (fun x h => .inl h) row3 hf3
 obtain ⟨ua', uc', hu', _, z0, z1⟩ := hv2.at hz
 have : ua' = ua ∧ uc' = uc := by rw [hu] at hu'; cases hu'; exact ⟨rfl, rfl⟩
 obtain ⟨rfl, rfl⟩ := this
 obtain ⟨Lg, hLg⟩ := own_blk hv2.hg
 refine ⟨a', c', w2, a3, c3, w3, ⟨r1, r2, z0, ?_, k1, k3 _, ⟨_, hd3⟩, ?_, ?_⟩⟩
 ·rw [(Below.refl w2.heap.size w2 |>.alloc (Nat.le_refl _) _).cell (old_block z0)]; exact z0
 ·have h1 : Out O W w2 := below_out _ bl'
  have h2 : Out O W w3 := h1.trans ho23 (fun x e => .inl (u2 x e))
  exact h2.setCell (p := ⟨g, i * 2, none⟩) (.inl hv.og) _
 ·intro q L t hq ht hz'
  have q2 := hq.below bl' hq.lt
  have q3 : Blk w3 q L t := ho23.blk q2 (blk_not_row q2 ht u1)
  refine q3.set_other ?_ _
  intro e
  have : q = g := e
  subst this
  exact blk_ne q2 hLg hz' rfl
set_option maxHeartbeats 4000000 in
theorem append_of (zn : Int) (a : Option Addr) (n c : Nat) (D : List Int) (hd : Dv 105 O W p s zs) (hw : Wf s zs) (hb : BIn W a n D) (hnil : a = none → n = 0 ∧ c = 0) (hn : n ≤ 100000) :
  Calls Tryz.prog 63 #[.pointer (some ⟨p, 0, none⟩), .int .i64 zn, .slice a n c] W (Apped 105 .u16 O W p s zs zn D) := by
 obtain ⟨q, hq⟩ : ∃ q, q = W.heap.size := ⟨_, rfl⟩
 obtain ⟨ab, abel⟩ := addr_blk hq
 have hd1 : Dv 105 O (W.alloc (.cells #[.int .i64 0, .int .i64 0] 55)) p s zs := by
  obtain ⟨g, c, vs, hv⟩ := hd; exact ⟨g, c, vs, hv.under (by rw [← hq]; exact abel)⟩
 have hb1 : BIn (W.alloc (.cells #[.int .i64 0, .int .i64 0] 55)) a n D := hb.alloc _
 have hl := hb.1
 go_enter Tryz.func63, Tryz.ntmps63
 go_upto_region 1 with fail
 rw [← hq]
 generalize hW1 : World.alloc _ _ = W1 at *
 clear hW1
 have hh := has_of zn hd1
 have e0 : W1.cell? ⟨q, 0, none⟩ = some (.int .i64 0) := ab.cell 0
 have e1 : W1.cell? ⟨q, 1, none⟩ = some (.int .i64 0) := ab.cell 1
 have f0 := ab.frozen 0
 have f1 := ab.frozen 1
 have HA : Hid (Blk W1 q [.int .i64 0, .int .i64 0] 55 ∧ Below q W W1 ∧ q = W.heap.size) := ⟨ab, abel, hq⟩
 have HD : Hid (Dv 105 O W p s zs ∧ Wf s zs ∧ Dv 105 O W1 p s zs) := ⟨hd, hw, hd1⟩
 have HI : Hid (BIn W1 a n D ∧ (a = none → n = 0 ∧ c = 0) ∧ n ≤ 100000 ∧ D.length = n) := ⟨hb1, hnil, hn, hl⟩
 clear ab abel hq hd hw hb hnil hn hb1 hl
 have fin : Hid (∀ (x y : Int), Blk ((W1.setCell ⟨q, 0, none⟩ (.int .i64 x)).setCell ⟨q, 1, none⟩ (.int .i64 y)) q [.int .i64 x, .int .i64 y] 55 ∧ Below W.heap.size W ((W1.setCell ⟨q, 0, none⟩ (.int .i64 x)).setCell ⟨q, 1, none⟩ (.int .i64 y))) := by
  intro x y
  refine ⟨(HA.out.1.set 0 _).set 1 _, ?_⟩
  rw [← HA.out.2.2]
  exact (HA.out.2.1.setCell (p := ⟨q, 0, none⟩) (Nat.le_refl _) _).setCell (p := ⟨q, 1, none⟩) (Nat.le_refl _) _
 rcases zone_cases zs zn with ⟨i, z, rfl, hz, hi, hbb⟩ | ⟨hno, hbb⟩
 ·rw [hbb] at hh
  have HH : Hid (Calls Tryz.prog 38 #[.pointer (some ⟨p, 0, none⟩), .int .i64 (i : Int)] W1 fun e w' => e = .returned (.bool true) ∧ w' = W1) := hh
  obtain ⟨g, cz, vs, hv⟩ := hd1
  obtain ⟨ua, uc, hu, hr, z0, z1⟩ := hv.at hz
  obtain ⟨p0, p1, p2, p3, c4⟩ := hv.pcell
  have hi' : (i : Int) < zs.length := by omega
  clear hh hbb
  by_cases hlen : (n : Int) = s.b
  ·have hok : Hid (appOk s zs i D) := by
    show appOk s zs i D
    exact ⟨by omega, by omega, by rw [HI.out.2.2.2]; exact hlen⟩
   have hzw := HD.out.2.1.zone z (List.mem_of_getElem? hz)
   by_cases hfull : s.zb ≤ (z.1.length : Int)
   ·have heq : (z.1.length : Int) = s.zb := by omega
    have hff : Hid (appFull s zs i) := by
     show appFull s zs i
     unfold appFull; rw [atZ_in hz]; exact hfull
    have b1 : ((n : Int) != s.b) = false := by simp [hlen]
    have b2 : ((z.1.length : Int) == s.zb) = true := by simp [heq]
    clear hfull hzw hv hr hu hz
    go_wp2_with (go_at_call 38; refine HH.out.mono ?_; rintro e W1 ⟨rfl, rfl⟩)
    refine bodyPost_ret (results_cell_two (p := 6) (u := 7) (ty := 55) rfl _ _ q _ _ _ rfl (fin.out 0 0).1 Tryz.underlying55 rfl Tryz.info_addr _ rfl) rfl ?_
    exact apped_full (q := q) hok.out hff.out HD.out.1 (fin.out 0 0).2
   ·have hne : ¬ (z.1.length : Int) = s.zb := by omega
    have hff : Hid (¬ appFull s zs i) := by
     show ¬ appFull s zs i
     unfold appFull; rw [atZ_in hz]; exact hfull
    have b1 : ((n : Int) != s.b) = false := by simp [hlen]
    have b2 : ((z.1.length : Int) == s.zb) = false := by simp [hne]
    have hr4 := HD.out.2.1.right.2.2.2.1
    obtain ⟨a', c', w2, a3, c3, w3, M⟩ := app_mem hv hz hu HI.out.1 HI.out.2.1 HI.out.2.2.1 (by omega)
    have HM : Hid (AppM 105 O W1 p s zs g cz i z ua uc a n c D a' c' w2 a3 c3 w3 ∧ zs[i]? = some z) := ⟨M, hz⟩
    have m2 := M.c2
    have m2a := M.c2a
    have m3 := M.c3'
    have mf := M.fz
    have aq := M.blk HA.out.1 (by decide) (by decide)
    clear M hfull hzw hv hr hu hz hne hr4
    go_upto_region 7 with (go_at_call 38; refine HH.out.mono ?_; rintro e W1 ⟨rfl, rfl⟩)
    refine wp_region_noPanic ?_
    go_region_law (first
     | (refine step_append_run rfl (.const (.slice none 0 0)) (.tmp 49) 51 51 rfl _ _ rfl rfl _ _ HM.out.1.run1 ?_)
     | (refine step_append_run rfl (.tmp 48) (.tmp 51) 100 100 rfl _ _ rfl rfl _ _ HM.out.1.run2 ?_))
    all_goals
     have HV : Hid ((∃ vs', DvV 105 (fun x => O x ∨ W1.heap.size ≤ x) (w3.setCell ⟨g, i * 2, none⟩ (.slice a3 (z.1.length + 1) c3)) p s (zs.set i (z.1 ++ [D], z.2)) g cz vs') ∧ Out O W1 (w3.setCell ⟨g, i * 2, none⟩ (.slice a3 (z.1.length + 1) c3)) ∧ Blk (w3.setCell ⟨g, i * 2, none⟩ (.slice a3 (z.1.length + 1) c3)) q [.int .i64 0, .int .i64 0] 55 ∧ zs[i]? = some z) := ⟨HM.out.1.dev, HM.out.1.out, aq, HM.out.2⟩
     clear HM m2 m2a m3 mf e0 e1 f0 f1 fin
     generalize World.setCell w3 _ _ = V at HV aq ⊢
     have e0 : V.cell? ⟨q, 0, none⟩ = some (.int .i64 0) := aq.cell 0
     have e1 : V.cell? ⟨q, 1, none⟩ = some (.int .i64 0) := aq.cell 1
     have f0 := aq.frozen 0
     have f1 := aq.frozen 1
     clear aq
     refine NoPanic.normal ?_
     go_wp2
     refine bodyPost_ret (results_cell_two (p := 6) (u := 7) (ty := 55) rfl _ _ q _ _ _ rfl ((HV.out.2.2.1.set 0 _).set 1 _) Tryz.underlying55 rfl Tryz.info_addr _ rfl) rfl ?_
     exact apped_ok hok.out hff.out HV.out.2.2.2 HA.out.2.1 HA.out.2.2 HV.out.1 HV.out.2.1 HV.out.2.2.1
  ·have hok : Hid (¬ appOk s zs i D) := by
    show ¬ appOk s zs i D
    rintro ⟨_, _, h⟩
    rw [HI.out.2.2.2] at h
    exact hlen h
   have b1 : ((n : Int) != s.b) = true := by simp [hlen]
   clear hv hr hu hz
   go_wp2_with (go_at_call 38; refine HH.out.mono ?_; rintro e W1 ⟨rfl, rfl⟩)
   refine bodyPost_ret (results_cell_two (p := 6) (u := 7) (ty := 55) rfl _ _ q _ _ _ rfl (fin.out 0 0).1 Tryz.underlying55 rfl Tryz.info_addr _ rfl) rfl ?_
   exact apped_no (q := q) hok.out HD.out.1 (fin.out 0 0).2
 ·rw [hbb] at hh
  have HH : Hid (Calls Tryz.prog 38 #[.pointer (some ⟨p, 0, none⟩), .int .i64 zn] W1 fun e w' => e = .returned (.bool false) ∧ w' = W1) := hh
  have hok : Hid (¬ appOk s zs zn D) := by
   show ¬ appOk s zs zn D
   rintro ⟨h1, h2, _⟩
   exact hno ⟨h1, h2⟩
  clear hh hbb hno hd1
  go_wp2_with (go_at_call 38; refine HH.out.mono ?_; rintro e W1 ⟨rfl, rfl⟩)
  refine bodyPost_ret (results_cell_two (p := 6) (u := 7) (ty := 55) rfl _ _ q _ _ _ rfl (fin.out 0 0).1 Tryz.underlying55 rfl Tryz.info_addr _ rfl) rfl ?_
  exact apped_no (q := q) hok.out HD.out.1 (fin.out 0 0).2
end
end
section
theorem Wf.short {s : Sh} {zs : List Zn} (h : Wf s zs) : ShortZ zs := by
 intro z hz D hD
 have := (h.zone z hz).2.2.2 D hD
 have := power_bounds h.right.2.2.2.2.1
 omega
def zoneIn (zs : List Zn) (zn : Int) : Prop := 0 ≤ zn ∧ zn ≤ (zs.length : Int) - 1
instance (zs : List Zn) (zn : Int) : Decidable (zoneIn zs zn) := by unfold zoneIn; infer_instance
def blockIn (zs : List Zn) (zn bn : Int) : Prop := 0 ≤ bn ∧ bn ≤ ((atZ zs zn).1.length : Int) - 1
instance (zs : List Zn) (zn bn : Int) : Decidable (blockIn zs zn bn) := by unfold blockIn; infer_instance
def rdE (zs : List Zn) (zn bn : Int) : Int := if zoneIn zs zn then (if blockIn zs zn bn then 0 else 102) else 100
def rdB (zs : List Zn) (zn bn : Int) : List Int := if zoneIn zs zn then (if blockIn zs zn bn then (atZ zs zn).1.getD bn.toNat [] else []) else []
def ReadE (k : IntKind) (W : World) (zs : List Zn) (zn bn : Int) (e : Ending) (w' : World) : Prop :=
 ∃ h, e = .returned (.tuple #[h, .int k (rdE zs zn bn)]) ∧ BkAt (fun x => W.heap.size ≤ x) w' h (rdB zs zn bn) ∧ Below W.heap.size W w'
theorem BkAt.nil (O : Nat → Prop) (W : World) : BkAt O W (.slice none 0 0) [] := ⟨World.ownsRow_nil _ _ _ _, (fun c h => by cases h), by simp, by simp⟩
section
variable {O : Nat → Prop} {W : World} {p : Nat} {s : Sh} {zs : List Zn}
theorem read_no {k : IntKind} {zn bn : Int} {W1 : World} (h : ¬ zoneIn zs zn) (hb : Below W.heap.size W W1) : ReadE k W zs zn bn (.returned (.tuple #[.slice none 0 0, .int k 100])) W1 := by
 unfold ReadE rdE rdB; rw [if_neg h, if_neg h]; exact ⟨_, rfl, BkAt.nil _ _, hb⟩
theorem read_none {k : IntKind} {zn bn : Int} {W1 : World} (h : zoneIn zs zn) (h2 : ¬ blockIn zs zn bn) (hb : Below W.heap.size W W1) : ReadE k W zs zn bn (.returned (.tuple #[.slice none 0 0, .int k 102])) W1 := by
 unfold ReadE rdE rdB; rw [if_pos h, if_neg h2, if_pos h, if_neg h2]; exact ⟨_, rfl, BkAt.nil _ _, hb⟩
theorem read_ok {k : IntKind} {i j : Nat} {z : Zn} {D : List Int} {v : Value} {W1 : World} (hz : zs[i]? = some z) (hD : z.1[j]? = some D) (hk : BkAt (fun x => W.heap.size ≤ x) W1 v D) (hb : Below W.heap.size W W1) : ReadE k W zs i j (.returned (.tuple #[v, .int k 0])) W1 := by
 have hi := (List.getElem?_eq_some_iff.1 hz).1
 have hj := (List.getElem?_eq_some_iff.1 hD).1
 have h1 : zoneIn zs i := ⟨by omega, by omega⟩
 have h2 : blockIn zs i j := ⟨by omega, by rw [atZ_in hz]; omega⟩
 unfold ReadE rdE rdB; rw [if_pos h1, if_pos h2, if_pos h1, if_pos h2, atZ_in hz]
 exact ⟨v, rfl, by simpa [List.getD, hD] using hk, hb⟩
/-- A block's header, where it lies. -/
theorem DvV.block {T : TypeId} {g c : Nat} {vs : List Value} {i j : Nat} {z : Zn} {D : List Int} {ua : Option Addr} {uc : Nat} (hv : DvV T O W p s zs g c vs) (hw : Wf s zs) (hz : zs[i]? = some z) (hu : vs[i]? = some (.slice ua z.1.length uc)) (hD : z.1[j]? = some D) :
  ∃ b off A L C, ua = some ⟨b, off, none⟩ ∧ W.cell? ⟨b, off + j, none⟩ = some (.slice A L C) ∧ BIn W A L D ∧ (A = none → L = 0 ∧ C = 0) ∧ L ≤ 100000 := by
 have hr := hv.rows i _ z hu hz
 have hbs := hr.bsin (hw.short z (List.mem_of_getElem? hz))
 obtain ⟨b, off, ha, hc⟩ := hbs.2.2.resolve_left (by have := (List.getElem?_eq_some_iff.1 hD).1; omega)
 obtain ⟨v, h1, A, L, C, rfl, h2, h3, h4, h5⟩ := hc j D hD
 exact ⟨b, off, A, L, C, ha, h1, h2, h3, h5⟩
set_option maxHeartbeats 4000000 in
theorem read_of (zn bn : Int) (hd : Dv 105 O W p s zs) (hw : Wf s zs) :
  Calls Tryz.prog 13 #[.pointer (some ⟨p, 0, none⟩), .agg #[.int .i64 zn, .int .i64 bn]] W (ReadE .u16 W zs zn bn) := by
 obtain ⟨q, hq⟩ : ∃ q, q = W.heap.size := ⟨_, rfl⟩
 have ab : Blk (W.alloc (.cells #[.int .i64 zn, .int .i64 bn] 55)) q [.int .i64 zn, .int .i64 bn] 55 := Blk.new' hq.symm rfl
 have abel : Below q W (W.alloc (.cells #[.int .i64 zn, .int .i64 bn] 55)) := (Below.refl _ _).alloc (by omega) _
 have hd1 : Dv 105 O (W.alloc (.cells #[.int .i64 zn, .int .i64 bn] 55)) p s zs := by
  obtain ⟨g, c, vs, hv⟩ := hd; exact ⟨g, c, vs, hv.under (by rw [← hq]; exact abel)⟩
 go_enter Tryz.func13, Tryz.ntmps13
 go_upto_region 1 with fail
 rw [← hq]
 generalize hW1 : World.alloc _ _ = W1 at *
 clear hW1
 have hh := has_of zn hd1
 have e0 : W1.cell? ⟨q, 0, none⟩ = some (.int .i64 zn) := ab.cell 0
 have e1 : W1.cell? ⟨q, 1, none⟩ = some (.int .i64 bn) := ab.cell 1
 have HA : Hid (Below W.heap.size W W1 ∧ Wf s zs) := ⟨by rw [← hq]; exact abel, hw⟩
 clear ab abel hd hw hq
 rcases zone_cases zs zn with ⟨i, z, rfl, hz, hi, hbb⟩ | ⟨hno, hbb⟩
 ·rw [hbb] at hh
  have HH : Hid (Calls Tryz.prog 38 #[.pointer (some ⟨p, 0, none⟩), .int .i64 (i : Int)] W1 fun e w' => e = .returned (.bool true) ∧ w' = W1) := hh
  obtain ⟨g, cz, vs, hv⟩ := hd1
  obtain ⟨ua, uc, hu, hr, z0, z1⟩ := hv.at hz
  obtain ⟨p0, p1, p2, p3, c4⟩ := hv.pcell
  have hi' : (i : Int) < zs.length := by omega
  have hzi : zoneIn zs i := ⟨by omega, by omega⟩
  have hzl := (HA.out.2.zone z (List.mem_of_getElem? hz)).1
  have hzr := HA.out.2.right.2.2.2.1
  have hwl : IntKind.i64.wrap ((z.1.length : Int) - 1) = (z.1.length : Int) - 1 := by rw [IntKind.wrap_i64]; omega
  clear hh hbb
  by_cases hbi : 0 ≤ bn ∧ bn ≤ (z.1.length : Int) - 1
  ·obtain ⟨j, rfl⟩ : ∃ j : Nat, bn = j := ⟨bn.toNat, by omega⟩
   have hj : j < z.1.length := by omega
   obtain ⟨D, hD⟩ : ∃ D, z.1[j]? = some D := ⟨z.1[j], by simp⟩
   obtain ⟨b, off, A, L, C, rfl, k1, k2, k3, k4⟩ := hv.block HA.out.2 hz hu hD
   have HI : Hid (∀ n, ∃ a' c' w', (Builtin.append_ #[51, 51] 51 #[.slice none 0 0, .slice A L C]).run Tryz.prog (W1.drewN n) = .ok (.slice a' L c') w' ∧ BkAt (fun k => (W1.drewN n).heap.size ≤ k) w' (.slice a' L c') D ∧ Below (W1.drewN n).heap.size (W1.drewN n) w') := fun n => run_lent (W := W1.drewN n) (k2.below (below_drewN _ _)) k3 (by omega)
   have HZ : Hid (zs[i]? = some z ∧ z.1[j]? = some D) := ⟨hz, hD⟩
   have hbt : (decide (0 ≤ (j : Int)) && decide ((j : Int) ≤ (z.1.length : Int) - 1)) = true := by simp; omega
   have hbt2 : decide ((j : Int) ≤ (z.1.length : Int) - 1) = true := by simp; omega
   have hj' : (j : Int) < z.1.length := by omega
   clear k2 k3 k4 hv hr hu hz hD hbi hzl hzr
   go_upto_region 3 with (go_at_call 38; refine HH.out.mono ?_; rintro e W1 ⟨rfl, rfl⟩)
   go_quiet (fail)
   obtain ⟨a', c', w', hrun, hbk, hbl⟩ := HI.out nq
   have HR : Hid ((Builtin.append_ #[51, 51] 51 #[.slice none 0 0, .slice A L C]).run Tryz.prog (W1.drewN nq) = .ok (.slice a' L c') w' ∧ BkAt (fun k => (W1.drewN nq).heap.size ≤ k) w' (.slice a' L c') D ∧ Below (W1.drewN nq).heap.size (W1.drewN nq) w') := ⟨hrun, hbk, hbl⟩
   clear hrun hbk hbl
   go_wp2_with (first
    | (go_at_call 39; refine (within_of _ _ _ _).mono ?_; rintro e w9 ⟨rfl, rfl⟩)
    | (at_builtin; refine wpList_append_run rfl (.const (.slice none 0 0)) (.tmp 32) 51 51 rfl _ _ rfl rfl _ _ HR.out.1 ?_))
   go_ret2
   have hsz := HA.out.1.size
   exact read_ok HZ.out.1 HZ.out.2 (HR.out.2.1.mono (fun x hx _ => Nat.le_trans hsz hx)) (HA.out.1.trans (((below_drewN W1 nq).trans HR.out.2.2).mono hsz))
  ·have hbf : (decide (0 ≤ bn) && decide (bn ≤ (z.1.length : Int) - 1)) = false := by simp; omega
   have HN : Hid (zoneIn zs i ∧ ¬ blockIn zs i bn) := ⟨hzi, by unfold blockIn; rw [atZ_in hz]; exact hbi⟩
   clear hv hr hu hz hbi hzl hzr hzi
   go_upto_region 3 with (go_at_call 38; refine HH.out.mono ?_; rintro e W1 ⟨rfl, rfl⟩)
   go_quiet (fail)
   go_wp2_with (go_at_call 39; refine (within_of _ _ _ _).mono ?_; rintro e w9 ⟨rfl, rfl⟩)
   go_ret2
   exact read_none HN.out.1 HN.out.2 (HA.out.1.trans ((below_drewN W1 nq).mono HA.out.1.size))
 ·rw [hbb] at hh
  have HH : Hid (Calls Tryz.prog 38 #[.pointer (some ⟨p, 0, none⟩), .int .i64 zn] W1 fun e w' => e = .returned (.bool false) ∧ w' = W1) := hh
  have HN : Hid (¬ zoneIn zs zn) := hno
  clear hh hbb hno hd1
  go_wp2_with (go_at_call 38; refine HH.out.mono ?_; rintro e W1 ⟨rfl, rfl⟩)
  go_ret2
  exact read_no HN.out HA.out.1
end
end
section
section
variable {O : Nat → Prop} {W : World} {p : Nat} {s : Sh} {zs : List Zn}
end
end
section
section
variable {O : Nat → Prop} {W : World} {p : Nat} {s : Sh} {zs : List Zn}
end
end
def SmallS (s : Sh) : Prop := s.z ≤ 12 ∧ s.zb ≤ 16 ∧ s.b ≤ 128
instance (s : Sh) : Decidable (SmallS s) := by unfold SmallS; infer_instance
theorem small_of (s : Sh) (w : World) :
  Calls Tryz.prog 59 #[.agg (shL s).toArray] w fun e w' => e = .returned (.bool (decide (SmallS s))) ∧ Below w.heap.size w w' := by
 obtain ⟨z, zb, b, r⟩ := s
 obtain ⟨B, hB⟩ : ∃ B, B = decide (SmallS ⟨z, zb, b, r⟩) := ⟨_, rfl⟩
 rw [← hB]
 have HB : Hid (B = decide (SmallS ⟨z, zb, b, r⟩)) := hB
 clear hB
 have bw : Hid (∀ o, Below w.heap.size w (w.alloc o)) := fun o => (Below.refl _ _).alloc (Nat.le_refl _) o
 simp only [shL]
 by_cases h1 : z ≤ 12
 ·by_cases h2 : zb ≤ 16
  ·have hf : B = decide (b ≤ 128) := by rw [HB.out]; simp [SmallS, h1, h2]
   clear HB
   subst hf
   go_enter Tryz.func59, Tryz.ntmps59
   go_wp2
   go_ret
   exact ⟨by simp, bw.out _⟩
  ·have hf : B = false := by rw [HB.out]; simp [SmallS, h2]
   clear HB
   subst hf
   go_enter Tryz.func59, Tryz.ntmps59
   go_wp2
   go_ret
   exact ⟨rfl, bw.out _⟩
 ·have hf : B = false := by rw [HB.out]; simp [SmallS, h1]
  clear HB
  subst hf
  go_enter Tryz.func59, Tryz.ntmps59
  go_wp2
  go_ret
  exact ⟨rfl, bw.out _⟩
end Go.Proofs.YtcdnjeiamihhbabGreat
