/- P21 -/
import Derived.Test.YtcdnjeiamihhbabGreatP20
import Derived.Test.YtcdnjeiamihhbabGreatP18
set_option linter.unusedVariables false
set_option maxRecDepth 4000
namespace Go.Proofs.YtcdnjeiamihhbabGreat
open Go.RowKit Go.Shelf
def emptyZ (n : Nat) : List Zn := List.replicate n ([], 0)
def Newed (T : TypeId) (W : World) (s : Sh) (e : Ending) (w' : World) : Prop :=
 Below W.heap.size W w' ∧ ((¬ RightS s ∧ e = .returned (.pointer none)) ∨ (RightS s ∧ ∃ p, e = .returned (.pointer (some ⟨p, 0, none⟩)) ∧ Dv T (fun x => W.heap.size ≤ x) w' p s (emptyZ s.z.toNat)))
theorem empty_wf {s : Sh} (h : RightS s) : Wf s (emptyZ s.z.toNat) := by
 refine ⟨h, ?_, fun z hz => ?_⟩
 ·have := h.1; simp [emptyZ]; omega
 ·have := (List.mem_replicate.1 hz).2
  subst this
  have := h.2.2.1
  simp; omega
theorem made_zones (n : Nat) : (madeCells (Value.agg #[.slice none 0 0, .int .i64 0]).cells (n * 2)).toList = zcells (List.replicate n (.slice none 0 0)) (emptyZ n) := by
 have hl : (zcells (List.replicate n (.slice none 0 0)) (emptyZ n)).length = n * 2 := by
  rw [zcells_length _ _ (by simp [emptyZ])]; simp [emptyZ]
 apply List.ext_getElem?
 intro i
 rcases Nat.lt_or_ge i (n * 2) with hi | hi
 ·have hk : i / 2 < n := by omega
  obtain ⟨g0, g1⟩ := zcells_get (List.replicate n (.slice none 0 0)) (emptyZ n) (i / 2) (.slice none 0 0) ([], 0) (by simp [hk]) (by simp [emptyZ, hk])
  rcases Nat.mod_two_eq_zero_or_one i with h | h
  ·have e : 2 * (i / 2) = i := by omega
   rw [e] at g0
   rw [g0]
   simp [madeCells, hi]
   show (#[Value.slice none 0 0, Value.int IntKind.i64 0])[i % 2]! = _
   rw [h]; rfl
  ·have e : 2 * (i / 2) + 1 = i := by omega
   rw [e] at g1
   rw [g1]
   simp [madeCells, hi]
   show (#[Value.slice none 0 0, Value.int IntKind.i64 0])[i % 2]! = _
   rw [h]; rfl
 ·rw [List.getElem?_eq_none (by rw [Array.length_toList, size_madeCells]; omega), List.getElem?_eq_none (by omega)]
theorem dev_new {T : TypeId} {W : World} {s : Sh} {n p g : Nat} (hT : T ≠ 102 ∧ T ≠ 51 ∧ T ≠ 5) (O : Nat → Prop) (hn : n ≤ 1000) (hp : Blk W p [.int .i64 s.z, .int .i64 s.zb, .int .i64 s.b, .int .i64 s.r, .slice (some ⟨g, 0, none⟩) n n] T) (hg : W.ownsRow 0 102 2 (.slice (some ⟨g, 0, none⟩) n n) n (madeCells (Value.agg #[.slice none 0 0, .int .i64 0]).cells (n * 2)).toList) (op : O p) (og : O g) : Dv T O W p s (emptyZ n) := by
 have hl : (emptyZ n).length = n := by simp [emptyZ]
 rw [made_zones] at hg
 refine ⟨g, n, List.replicate n (.slice none 0 0), ⟨by rw [hl]; exact hp, by rw [hl]; exact hg, op, og, by simp [emptyZ], fun i u z h1 h2 => ?_, fun i j u v r h1 h2 e1 _ => ?_, by rw [hl]; exact hn, hT⟩⟩
 ·have hu := (List.mem_replicate.1 (List.mem_of_getElem? h1)).2
  have hz := (List.mem_replicate.1 (List.mem_of_getElem? h2)).2
  subst hu; subst hz
  exact RowAt.nil _ _
 ·have hu := (List.mem_replicate.1 (List.mem_of_getElem? h1)).2
  subst hu
  cases e1
set_option maxHeartbeats 4000000 in
theorem new_of (s : Sh) (W : World) (hz : -9223372036854775808 ≤ s.z) : Calls Tryz.prog 25 #[.agg (shL s).toArray] W (Newed 105 W s) := by
 obtain ⟨q, hq⟩ : ∃ q, q = W.heap.size := ⟨_, rfl⟩
 have hb : Blk (W.alloc (.cells #[.int .i64 s.z, .int .i64 s.zb, .int .i64 s.b, .int .i64 s.r] 23)) q (shL s) 23 := Blk.new' hq.symm rfl
 have hbel : Below q W (W.alloc (.cells #[.int .i64 s.z, .int .i64 s.zb, .int .i64 s.b, .int .i64 s.r] 23)) := (Below.refl _ _).alloc (by omega) _
 simp only [shL]
 go_enter Tryz.func25, Tryz.ntmps25
 go_upto_region 1 with fail
 rw [← hq]
 generalize hW1 : World.alloc _ _ = W1 at *
 clear hW1
 have e0 : W1.cell? ⟨q, 0, none⟩ = some (.int .i64 s.z) := hb.cell 0
 have e1 : W1.cell? ⟨q, 1, none⟩ = some (.int .i64 s.zb) := hb.cell 1
 have e2 : W1.cell? ⟨q, 2, none⟩ = some (.int .i64 s.b) := hb.cell 2
 have e3 : W1.cell? ⟨q, 3, none⟩ = some (.int .i64 s.r) := hb.cell 3
 have hR := right_of s W1 hz
 simp only [shL] at hR
 have HA : Hid (Blk W1 q (shL s) 23 ∧ Below W.heap.size W W1) := ⟨hb, by rw [← hq]; exact hbel⟩
 clear hb hbel hq
 by_cases hr : RightS s
 ·have hd : decide (RightS s) = true := by simp [hr]
  rw [hd] at hR
  have HR : Hid (Calls Tryz.prog 60 #[.agg #[.int .i64 s.z, .int .i64 s.zb, .int .i64 s.b, .int .i64 s.r]] W1 fun e w' => e = .returned (.bool true) ∧ Below W1.heap.size W1 w') := hR
  have HS : Hid (RightS s) := hr
  clear hR hd hr
  go_upto_region 3 with (go_at_call 60; refine HR.out.mono ?_; rintro e W2 ⟨rfl, b2⟩)
  have g0 := (b2.cell (old_block e0)).trans e0
  have g1 := (b2.cell (old_block e1)).trans e1
  have g2 := (b2.cell (old_block e2)).trans e2
  have g3 := (b2.cell (old_block e3)).trans e3
  obtain ⟨i0, hi, hz0, hz1, hz2⟩ := info_parts Tryz.zero_zone
  obtain ⟨n, hn⟩ : ∃ n : Nat, s.z = n := ⟨s.z.toNat, by have := HS.out.1; omega⟩
  have hnb := HS.out.2.1
  obtain ⟨w3, r3, o3, gr3⟩ := run_make_full (P := Tryz.prog) W2.drew 0 103 102 i0 _ 2 Tryz.underlying103 hi hz0 hz1 .i64 .i64 n (by rw [hz2]; omega) (by unfold maxLen; omega) (Nat.zero_le _)
  have HM : Hid (W2.heap.size = W2.drew.heap.size ∧ w3.ownsRow 0 102 2 (.slice (some ⟨W2.heap.size, 0, none⟩) n n) n (madeCells (Value.agg #[.slice none 0 0, .int .i64 0]).cells (n * 2)).toList ∧ Below W2.heap.size W2 w3 ∧ Below W1.heap.size W1 W2 ∧ s.z = n ∧ n ≤ 256) := ⟨rfl, o3, ⟨gr3.os, gr3.tape, gr3.output, gr3.size, fun k hk => gr3.block k hk (by simp)⟩, b2, hn, by omega⟩
  rw [hn] at g0
  have k0 := (HM.out.2.2.1.cell (old_block g0)).trans g0
  have k1 := (HM.out.2.2.1.cell (old_block g1)).trans g1
  have k2 := (HM.out.2.2.1.cell (old_block g2)).trans g2
  have k3 := (HM.out.2.2.1.cell (old_block g3)).trans g3
  clear e0 e1 e2 e3 o3 gr3 b2 hn hnb hi hz0 hz1 hz2
  go_region
  go_wp2
  go_ret
  obtain ⟨_, o3, b3, b2, hn, hn2⟩ := HM.out
  have hs1 := HA.out.2.size
  have hs2 := b2.size
  have hs3 := b3.size
  refine ⟨((HA.out.2.trans (b2.mono hs1)).trans (b3.mono (by omega))).alloc (by omega) _, .inr ⟨HS.out, _, rfl, ?_⟩⟩
  rw [hn, Int.toNat_natCast]
  refine dev_new (by decide) _ (by omega) ?_ (o3.alloc _) (by omega) (by omega)
  rw [hn]
  exact Blk.new' rfl rfl
 ·have hd : decide (RightS s) = false := by simp [hr]
  rw [hd] at hR
  have HR : Hid (Calls Tryz.prog 60 #[.agg #[.int .i64 s.z, .int .i64 s.zb, .int .i64 s.b, .int .i64 s.r]] W1 fun e w' => e = .returned (.bool false) ∧ Below W1.heap.size W1 w') := hR
  have HS : Hid (¬ RightS s) := hr
  clear hR hd hr
  go_wp2_with (go_at_call 60; refine HR.out.mono ?_; rintro e W2 ⟨rfl, b2⟩)
  go_ret
  exact ⟨HA.out.2.trans (b2.mono HA.out.2.size), .inl ⟨HS.out, rfl⟩⟩
theorem kdv_under {T : TypeId} {O : Nat → Prop} {W W' : World} {p : Nat} {s : Sh} {zs : List Zn} (h : Dv T O W p s zs) (hb : Below W.heap.size W W') : Dv T O W' p s zs := by
 obtain ⟨g, c, vs, hv⟩ := h; exact ⟨g, c, vs, hv.under hb⟩
theorem rd_at {zs : List Zn} {i j : Nat} {z : Zn} {D : List Int} (hz : zs[i]? = some z) (hD : z.1[j]? = some D) : rdE zs i j = 0 ∧ rdB zs i j = D := by
 have hi := (List.getElem?_eq_some_iff.1 hz).1
 have hj := (List.getElem?_eq_some_iff.1 hD).1
 have h1 : zoneIn zs i := ⟨by omega, by omega⟩
 have h2 : blockIn zs i j := ⟨by omega, by rw [atZ_in hz]; omega⟩
 unfold rdE rdB
 rw [if_pos h1, if_pos h2, if_pos h1, if_pos h2, atZ_in hz]
 exact ⟨rfl, by simp [List.getD, hD]⟩
def Held (W : World) (bs : List (List Int)) (e : Ending) (w' : World) : Prop := ∃ v, e = .returned v ∧ RowAt (fun j => W.heap.size ≤ j) w' v bs ∧ Below W.heap.size W w'
set_option maxHeartbeats 2000000 in
theorem kheld_of (i : Nat) {O : Nat → Prop} {W : World} {p : Nat} {s : Sh} {zs : List Zn} (hd : Dv 105 O W p s zs) (hw : Wf s zs) {z : Zn} (hz : zs[i]? = some z) :
  Calls Tryz.prog 92 #[.pointer (some ⟨p, 0, none⟩), .int .i64 i] W (Held W z.1) := by
 obtain ⟨i0, hi0, hz0, hz1, hz2⟩ := info_parts Tryz.zero_bytes
 obtain ⟨q, hq⟩ : ∃ q, q = W.heap.size := ⟨_, rfl⟩
 obtain ⟨m, hm⟩ : ∃ m, m = z.1.length := ⟨_, rfl⟩
 have hzl := (hw.zone z (List.mem_of_getElem? hz)).1
 have hzr := hw.right.2.2.2.1
 have hm4 : m ≤ 4096 := by omega
 have hAt := at_of (i : Int) hd
 rw [atZ_in hz, ← hm] at hAt
 have HA : Hid (Calls Tryz.prog 12 #[.pointer (some ⟨p, 0, none⟩), .int .i64 (i : Int)] W fun e w' => e = .returned (.tuple #[.int .i64 (m : Nat), .int .i64 z.2]) ∧ Below W.heap.size W w') := hAt
 have H : Hid (Dv 105 O W p s zs ∧ Wf s zs ∧ zs[i]? = some z ∧ q = W.heap.size ∧ m = z.1.length ∧ Tryz.prog.info? 51 = some i0 ∧ i0.zero = some (.slice none 0 0) ∧ i0.size = 1 ∧ i0.bytes = 24) := ⟨hd, hw, hz, hq, hm, hi0, hz0, hz1, hz2⟩
 clear hd hw hz hm hi0 hz0 hz1 hz2 hzl hzr hAt
 go_enter Tryz.func92, Tryz.ntmps92
 go_upto_region 3 with (first
  | (go_at_call 12; refine HA.out.mono ?_; rintro e W1 ⟨rfl, b1⟩)
  | (at_make; refine wpList_make_own W1 rfl _ (.tmp 17) 100 rfl q 51 i0 (.slice none 0 0) 1 Tryz.underlying100 H.out.2.2.2.2.2.1 H.out.2.2.2.2.2.2.1 H.out.2.2.2.2.2.2.2.1 .i64 .i64 _ m rfl rfl (by omega) (by rw [H.out.2.2.2.2.2.2.2.2]; omega) (by unfold maxLen; omega) (by rw [H.out.2.2.2.1]; exact b1.size) ?_; intro W2 ow2 gr2))
 have H2 : Hid (RowAt (fun j => q ≤ j) W2 (.slice (some ⟨W1.heap.size, 0, none⟩) 0 m) (z.1.take 0) ∧ Below q W W2) := by
  refine ⟨⟨[], by simpa using own_zero ow2, fun r e => (ow2.lt r e).1, BsAt.nil _ _, by simp⟩, ?_⟩
  have b2 : Below W1.heap.size W1 W2 := (Below.refl _ _).grown gr2 (Nat.le_refl _) (fun g hg => by cases hg)
  have hs := b1.size
  rw [H.out.2.2.2.1]
  exact b1.trans (b2.mono hs)
 clear b1 ow2 gr2 hq
 go_wp2
 go_loopw [7, 20] (fun v x wr => ∃ (j : Nat) (av : Option Addr) (nv cv : Nat), j ≤ m ∧ x = .int .i64 j ∧ v = .slice av nv cv ∧ RowAt (fun k => q ≤ k) wr (.slice av nv cv) (z.1.take j) ∧ Below q W wr) (fun _ x _ => m - (intOf x).toNat)
 case atStart => exact ⟨0, _, _, _, Nat.zero_le _, rfl, rfl, H2.out.1, H2.out.2⟩
 case round =>
  obtain ⟨j, av, nv, cv, hj, rfl, rfl, row, bl⟩ := hrel
  have hbl : Below W.heap.size W wr := by rw [← H.out.2.2.2.1]; exact bl
  rcases Nat.lt_or_ge j m with hlt | hge
  ·obtain ⟨D, hD⟩ : ∃ D, z.1[j]? = some D := ⟨z.1[j]'(by have := H.out.2.2.2.2.1; omega), by simp⟩
   obtain ⟨hrE, hrB⟩ := rd_at H.out.2.2.1 hD
   have hR := read_of (i : Int) (j : Int) (kdv_under H.out.1 hbl) H.out.2.1
   have hj' : (j : Int) < m := by omega
   have hwj : IntKind.i64.wrap ((j : Int) + 1) = (j : Int) + 1 := by rw [IntKind.wrap_i64]; omega
   have htl : (z.1.take j).length = j := by rw [List.length_take]; have := H.out.2.2.2.2.1; omega
   have HR : Hid (Calls Tryz.prog 13 #[.pointer (some ⟨p, 0, none⟩), .agg #[.int .i64 (i : Int), .int .i64 (j : Int)]] wr fun e X => ∃ ax nx cx, e = .returned (.tuple #[.slice ax nx cx, .int .u16 0]) ∧ ∃ a9 c9 w9, (Builtin.append_ #[100, 100] 100 #[.slice av nv cv, .slice (some ⟨X.heap.size, 0, none⟩) 1 1]).run Tryz.prog (X.alloc (.cells #[.slice ax nx cx] 51)) = .ok (.slice a9 (j + 1) c9) w9 ∧ RowAt (fun k => q ≤ k) w9 (.slice a9 (j + 1) c9) (z.1.take (j + 1)) ∧ Below q W w9) := by
    refine hR.mono ?_
    rintro e X ⟨h, rfl, hbk, hb⟩
    rw [hrE]
    rw [hrB] at hbk
    obtain ⟨ax, cx, rfl⟩ := own_slice hbk.1
    have hqw : q ≤ wr.heap.size := by rw [H.out.2.2.2.1]; exact hbl.size
    have row' := row.out (below_out Non hb) (fun _ _ => id) (fun _ _ _ _ => id)
    obtain ⟨a9, c9, w9, e9, r9, g9, _⟩ := app_row row' (hbk.mono (O' := fun k => q ≤ k) (fun c hc _ => Nat.le_trans hqw hc)) rfl (by rw [htl]; omega) (fun k hk => Nat.le_trans hqw (Nat.le_trans hb.size hk))
    rw [htl] at e9 r9
    have bX : Below q W X := bl.trans (hb.mono hqw)
    refine ⟨ax, _, cx, rfl, a9, c9, w9, e9, by rw [take_snoc hD]; exact r9, ?_⟩
    obtain ⟨vs, r1, r2, _⟩ := row'
    exact (bX.alloc (by have := hb.size; omega) _).grown g9 (by simp; have := hb.size; omega) (fun k hk => r2 k hk)
   clear row bl hbl hR hrE hrB hD htl
   go_wp2_with (first
    | (go_at_call 13; refine HR.out.mono ?_; rintro e X ⟨ax, nx, cx, rfl, a9, c9, w9, e9, r9, b9⟩)
    | (at_builtin; refine wpList_append_run rfl (.tmp 31) (.tmp 33) 100 100 rfl _ _ rfl rfl _ _ e9 ?_))
   have H9 : Hid (RowAt (fun k => q ≤ k) w9 (.slice a9 (j + 1) c9) (z.1.take (j + 1)) ∧ Below q W w9) := ⟨r9, b9⟩
   clear e9 r9 b9
   go_roundw
   case rel => exact ⟨j + 1, a9, j + 1, c9, by omega, by simp, by simp, H9.out.1, H9.out.2⟩
   case measure => simp [intOf]; omega
  ·obtain rfl : j = m := by omega
   have htk : z.1.take j = z.1 := List.take_of_length_le (by rw [H.out.2.2.2.2.1]; exact Nat.le_refl _)
   rw [htk] at row
   have HF : Hid (RowAt (fun k => W.heap.size ≤ k) wr (.slice av nv cv) z.1 ∧ Below W.heap.size W wr) := ⟨by rw [← H.out.2.2.2.1]; exact row, hbl⟩
   clear row bl hbl htk
   go_wp2
   go_ret
   exact ⟨_, rfl, HF.out.1, HF.out.2⟩
section
/-- Losses that are read. -/
def LsIn (W : World) (a : Option Addr) (n : Nat) (ls : List (Int × Int)) : Prop :=
 ls.length = n ∧ n ≤ maxLen ∧ (∀ k ∈ ls, k.1 < 9223372036854775808) ∧ (n = 0 ∨ ∃ b off, a = some ⟨b, off, none⟩ ∧ ∀ (i : Nat) (k : Int × Int), ls[i]? = some k → W.cell? ⟨b, off + i * 2, none⟩ = some (.int .i64 k.1) ∧ W.cell? ⟨b, off + i * 2 + 1, none⟩ = some (.int .i64 k.2))
theorem LsIn.out {W W' : World} {a : Option Addr} {n : Nat} {ls : List (Int × Int)} {S : Nat → Prop} (h : LsIn W a n ls) (ho : Out S W W') (hS : n ≠ 0 → ∀ ad, a = some ad → ¬ S ad.block) : LsIn W' a n ls := by
 obtain ⟨h1, h2, h3, h4⟩ := h
 refine ⟨h1, h2, h3, ?_⟩
 by_cases hn0 : n = 0
 ·exact .inl hn0
 rcases h4 with h4 | ⟨b, off, ha, hc⟩
 ·exact .inl h4
 ·have hS := hS hn0
  exact .inr ⟨b, off, ha, fun i k hi => ⟨ho.cell (hc i k hi).1 (hS ⟨b, off, none⟩ ha), ho.cell (hc i k hi).2 (hS ⟨b, off, none⟩ ha)⟩⟩
def lossAt (ls : List (Int × Int)) (i : Nat) : Int × Int := ls.getD i (0, 0)
def cr1 (k : Int × Int) (z : Zn) : Zn := (crashB z.1 z.2.toNat k.1 k.2, ((crashB z.1 z.2.toNat k.1 k.2).length : Nat))
def crashZ (ls : List (Int × Int)) (zs : List Zn) : List Zn := zs.mapIdx (fun i z => cr1 (lossAt ls i) z)
section
variable {O : Nat → Prop} {W : World} {p : Nat} {s : Sh} {zs : List Zn}
/-- One zone is crashed, and written. -/
structure CrM (T : TypeId) (O : Nat → Prop) (V : World) (p : Nat) (s : Sh) (zs : List Zn) (g cz i : Nat) (z : Zn) (ua : Option Addr) (uc : Nat) (ub : Option Addr) (ud : Nat) (B : List (List Int)) (w' : World) : Prop where
 dev : ∃ vs', DvV T O ((w'.setCell ⟨g, i * 2, none⟩ (.slice ub B.length ud)).setCell ⟨g, i * 2 + 1, none⟩ (.int .i64 (B.length : Nat))) p s (zs.set i (B, (B.length : Nat))) g cz vs'
 c0 : w'.cell? ⟨g, i * 2, none⟩ = some (.slice ua z.1.length uc)
 c1 : w'.cell? ⟨g, i * 2 + 1, none⟩ = some (.int .i64 z.2)
 f0 : w'.frozen? ⟨g, i * 2, none⟩ = false
 f1 : w'.frozen? ⟨g, i * 2 + 1, none⟩ = false
 out : Out (fun x => O x) V ((w'.setCell ⟨g, i * 2, none⟩ (.slice ub B.length ud)).setCell ⟨g, i * 2 + 1, none⟩ (.int .i64 (B.length : Nat)))
 blk : ∀ {q : Nat} {L : List Value} {t : TypeId}, Blk V q L t → t ≠ 51 → Blk w' q L t
theorem cr_mem {T : TypeId} {V w' : World} {g cz : Nat} {vs : List Value} {i : Nat} {z : Zn} {ua : Option Addr} {uc : Nat} {ub : Option Addr} {ud : Nat} {B : List (List Int)} (hO : ∀ x, V.heap.size ≤ x → O x) (hv : DvV T O V p s zs g cz vs) (hz : zs[i]? = some z) (hu : vs[i]? = some (.slice ua z.1.length uc))
  (hr : RowAt (fun x => O x ∨ V.heap.size ≤ x) w' (.slice ub B.length ud) B) (ho : Out (blkOf ua) V w') (hf : ub = ua ∨ ∀ r, (Value.slice ub B.length ud).ownBlock = some r → V.heap.size ≤ r) : CrM T O V p s zs g cz i z ua uc ub ud B w' := by
 have hr' := hr.mono (O' := O) (fun x hx _ => by rcases hx with h | h; exact h; exact hO x h)
 have ho' : Out (fun x => (Value.slice ua z.1.length uc).ownBlock = some x) V w' := ho.mono (fun x hx _ => by obtain ⟨ad, rfl, rfl⟩ := hx; rfl)
 have hi := (List.getElem?_eq_some_iff.1 hz).1
 obtain ⟨uv, u1, u2, _⟩ := hv.rows i _ z hu hz
 obtain ⟨k1, k2, k3, hd⟩ := hv.upd (O1 := O) hz hu ho' (fun _ h => h) hr' (by
  rcases hf with rfl | hf
  ·exact .inl (by cases ub <;> rfl)
  ·exact .inr hf)
 have hd2 := hd.setD (i := i) (z := (B, z.2)) (by simp [hi]) (B.length : Nat)
 rw [List.set_set] at hd2
 refine ⟨⟨_, hd2⟩, k1, k2, k3 _, k3 _, ?_, fun hq ht => ho'.blk hq (blk_not_row hq ht u1)⟩
 exact ((ho'.mono (fun x hx _ => u2 x hx)).setCell (p := ⟨g, i * 2, none⟩) (.inl hv.og) _).setCell (p := ⟨g, i * 2 + 1, none⟩) (.inl hv.og) _
theorem crashB_len (bs : List (List Int)) (d : Nat) (k t : Int) : (crashB bs d k t).length ≤ bs.length := by
 unfold crashB keptB
 simp only [List.length_append, List.length_take, List.length_drop]
 split
 ·rename_i D hD
  have := (List.getElem?_eq_some_iff.1 hD).1
  simp at this
  split <;> simp <;> omega
 ·simp; omega
set_option maxHeartbeats 4000000 in
theorem crash_of (a : Option Addr) (n c : Nat) (ls : List (Int × Int)) (hd : Dv 105 O W p s zs) (hw : Wf s zs) (hl : LsIn W a n ls) (ha : n ≠ 0 → ∀ ad, a = some ad → ¬ O ad.block) :
  Calls Tryz.prog 17 #[.pointer (some ⟨p, 0, none⟩), .slice a n c] W fun e w' => (∃ v, e = .returned v) ∧ Step 105 O W p s (crashZ ls zs) w' := by
 obtain ⟨g, cz, vs, hv⟩ := hd
 have c4 := hv.pcell.2.2.2.2
 have hsm := hv.small
 have hla : ∀ ad, a = some ad → n ≠ 0 → ad.block < W.heap.size := by
  intro ad e hn
  obtain ⟨b, off, e', hc⟩ := hl.2.2.2.resolve_left hn
  rw [e] at e'; cases e'
  have := (hc 0 (ls[0]'(by have := hl.1; omega)) (by simp)).1
  exact old_block this
 have HV : Hid (DvV 105 O W p s zs g cz vs ∧ Wf s zs ∧ LsIn W a n ls ∧ (n ≠ 0 → ∀ ad, a = some ad → ¬ O ad.block) ∧ (∀ ad, a = some ad → n ≠ 0 → ad.block < W.heap.size)) := ⟨hv, hw, hl, ha, hla⟩
 clear hv hw hl ha hla
 generalize hN : zs.length = N at *
 go_enter Tryz.func17, Tryz.ntmps17
 go_wp2
 go_loopw [11] (fun x wr => ∃ i : Nat, x = .int .i64 i ∧ i ≤ N ∧ (∃ vs', DvV 105 (fun x => O x ∨ W.heap.size ≤ x) wr p s (upTo (fun i z => cr1 (lossAt ls i) z) zs i) g cz vs') ∧ Out O W wr) (fun x wr => N - (intOf x).toNat)
 case atStart => exact ⟨0, rfl, Nat.zero_le _, ⟨vs, by rw [upTo_zero]; exact HV.out.1.mono (fun x h _ => .inl h)⟩, Out.refl _ _⟩
 case round =>
  obtain ⟨i, rfl, hi, ⟨vs', hv⟩, ho⟩ := hrel
  have c4' := hv.pcell.2.2.2.2
  rw [upTo_length, hN] at c4'
  rcases Nat.lt_or_ge i N with hlt | hge
  ·obtain ⟨z, hz⟩ : ∃ z, zs[i]? = some z := ⟨zs[i]'(by omega), by simp⟩
   have hz' := (upTo_get (fun i z => cr1 (lossAt ls i) z) zs i).trans hz
   obtain ⟨ua, uc, hu, hr, z0, z1⟩ := hv.at hz'
   have hi' : (i : Int) < (N : Int) := by omega
   have hw1 : IntKind.i64.wrap ((i : Int) + 1) = (i : Int) + 1 := by rw [IntKind.wrap_i64]; omega
   obtain ⟨k, hk⟩ : ∃ k, k = lossAt ls i := ⟨_, rfl⟩
   obtain ⟨q, hq⟩ : ∃ q, q = wr.heap.size := ⟨_, rfl⟩
   have hzz := HV.out.2.1.zone z (List.mem_of_getElem? hz)
   obtain ⟨dn, hdn⟩ : ∃ dn : Nat, z.2 = dn := ⟨z.2.toNat, by omega⟩
   have hpb := power_bounds HV.out.2.1.right.2.2.2.2.1
   have hkb : k.1 < 9223372036854775808 := by
    rw [hk, lossAt, List.getD]
    cases e : ls[i]? with
    | none => show (0 : Int) < _; omega
    | some y => exact HV.out.2.2.1.2.2.1 y (List.mem_of_getElem? e)
   have HC : Hid (∀ V, Below wr.heap.size wr V → Calls Tryz.prog 46 #[.agg #[.slice ua z.1.length uc, .int .i64 z.2], .agg #[.int .i64 k.1, .int .i64 k.2]] V (Crashed V (fun x => O x ∨ W.heap.size ≤ x) ua uc z.1 dn k.1 k.2)) := by
    intro V hV
    rw [hdn]
    exact crashed_of _ ua z.1.length uc dn k.1 k.2 z.1 V ((hv.under hV).rows i _ z hu hz') (HV.out.2.1.short z (List.mem_of_getElem? hz)) (fun D hD => by have := hzz.2.2.2 D hD; omega) (by omega) hkb
   obtain ⟨B, hB⟩ : ∃ B, B = crashB z.1 dn k.1 k.2 := ⟨_, rfl⟩
   have HM : Hid (∀ V w', Below wr.heap.size wr V → RowAt (fun x => (O x ∨ W.heap.size ≤ x) ∨ V.heap.size ≤ x) w' (.slice ua B.length uc) B → Out (blkOf ua) V w' → CrM 105 (fun x => O x ∨ W.heap.size ≤ x) V p s (upTo (fun i z => cr1 (lossAt ls i) z) zs i) g cz i z ua uc ua uc B w') :=
    fun V w' hV h1 h2 => cr_mem (fun x hx => .inr (by have := ho.size; have := hV.size; omega)) (hv.under hV) hz' hu h1 h2 (.inl rfl)
   have HS : Hid (Out O W wr ∧ zs[i]? = some z ∧ k = lossAt ls i ∧ z.2 = dn ∧ q = wr.heap.size ∧ DvV 105 (fun x => O x ∨ W.heap.size ≤ x) wr p s (upTo (fun i z => cr1 (lossAt ls i) z) zs i) g cz vs' ∧ B = crashB z.1 dn k.1 k.2) := ⟨ho, hz, hk, hdn, hq, hv, hB⟩
   have hls := HV.out.2.2.1.out ho HV.out.2.2.2.1
   have HU : Hid (vs'[i]? = some (.slice ua z.1.length uc)) := hu
   clear hkb hpb hzz hz' hr hu
   by_cases hin : i < n
   ·have hin' : (i : Int) < n := by omega
    obtain ⟨b, off, rfl, hc⟩ := hls.2.2.2.resolve_left (by omega)
    obtain ⟨y0, y1⟩ := hc i k (by rw [hk, lossAt, List.getD]; have : i < ls.length := by rw [hls.1]; exact hin
                                  simp [this])
    have w0 : ∀ o, (wr.alloc o).cell? ⟨b, off + i * 2, none⟩ = some (.int .i64 k.1) := fun o => (((Below.refl wr.heap.size wr).alloc (Nat.le_refl _) o).cell (old_block y0)).trans y0
    have w1 : ∀ o, (wr.alloc o).cell? ⟨b, off + i * 2 + 1, none⟩ = some (.int .i64 k.2) := fun o => (((Below.refl wr.heap.size wr).alloc (Nat.le_refl _) o).cell (old_block y1)).trans y1
    have HX : Hid (Blk (wr.alloc (.cells #[.int .i64 k.1, .int .i64 k.2] 114)) q [.int .i64 k.1, .int .i64 k.2] 114 ∧ Below wr.heap.size wr (wr.alloc (.cells #[.int .i64 k.1, .int .i64 k.2] 114))) := ⟨Blk.new' hq.symm rfl, (Below.refl _ _).alloc (Nat.le_refl _) _⟩
    clear hls hc hz hdn hk hv ho c4 z0 z1 c4' y0 y1 hB
    go_upto_region 6 with fail
    rw [← hq]
    generalize hVV : World.alloc _ _ = V at HX ⊢
    clear hVV w0 w1 hq
    have lb : Blk V q [.int .i64 k.1, .int .i64 k.2] 114 := HX.out.1
    have hvV := HS.out.2.2.2.2.2.1.under HX.out.2
    have c4V := hvV.pcell.2.2.2.2
    rw [upTo_length, hN] at c4V
    obtain ⟨ua', uc', hu', _, z0V, z1V⟩ := hvV.at ((upTo_get (fun i z => cr1 (lossAt ls i) z) zs i).trans HS.out.2.1)
    have hue : ua' = ua ∧ uc' = uc := by rw [HU.out] at hu'; cases hu'; exact ⟨rfl, rfl⟩
    obtain ⟨rfl, rfl⟩ := hue
    have l0 : V.cell? ⟨q, 0, none⟩ = some (.int .i64 k.1) := lb.cell 0
    have l1 : V.cell? ⟨q, 1, none⟩ = some (.int .i64 k.2) := lb.cell 1
    obtain ⟨Lg, hLg⟩ := own_blk hvV.hg
    have hpg : p ≠ g := blk_ne hvV.hp hLg (by decide)
    have hqg : q ≠ g := blk_ne lb hLg (by decide)
    have HP : Hid (Blk V p [.int .i64 s.z, .int .i64 s.zb, .int .i64 s.b, .int .i64 s.r, .slice (some ⟨g, 0, none⟩) N cz] 105) := by
     have := hvV.hp
     rw [upTo_length, hN] at this
     exact this
    have HL : Hid (Blk V q [.int .i64 k.1, .int .i64 k.2] 114) := lb
    have HE : Hid (B = crashB z.1 dn k.1 k.2) := HS.out.2.2.2.2.2.2
    clear hvV hu' lb hLg
    refine wp_region_noPanic ?_
    go_region_law (go_simp; go_at_call 46; refine (HC.out _ (by exact HX.out.2.drew)).mono ?_; rintro e w3 ⟨rfl, r3, o3⟩; rw [← HE.out] at r3; have M := HM.out _ w3 (by exact HX.out.2.drew) r3 o3; have m4 : w3.cell? ⟨p, 4, none⟩ = some (.slice (some ⟨g, 0, none⟩) N cz) := (M.blk HP.out (by decide)).cell 4; have m0 : w3.cell? ⟨q, 0, none⟩ = some (.int .i64 k.1) := (M.blk HL.out (by decide)).cell 0; have m1 : w3.cell? ⟨q, 1, none⟩ = some (.int .i64 k.2) := (M.blk HL.out (by decide)).cell 1; have m5 := M.c0; have m6 := M.c1; have m7 := M.f0; have m8 := M.f1; rw [← HE.out])
    all_goals
     refine NoPanic.normal ?_
     have HF : Hid ((∃ vs', DvV 105 (fun x => O x ∨ W.heap.size ≤ x) ((w3.setCell ⟨g, i * 2, none⟩ (.slice ua' B.length uc')).setCell ⟨g, i * 2 + 1, none⟩ (.int .i64 (B.length : Nat))) p s (upTo (fun i z => cr1 (lossAt ls i) z) zs (i + 1)) g cz vs') ∧ Out O W ((w3.setCell ⟨g, i * 2, none⟩ (.slice ua' B.length uc')).setCell ⟨g, i * 2 + 1, none⟩ (.int .i64 (B.length : Nat)))) := by
      refine ⟨?_, ?_⟩
      ·obtain ⟨vs2, hv2⟩ := M.dev
       refine ⟨vs2, ?_⟩
       rw [← upTo_next _ _ HS.out.2.1]
       have e : cr1 (lossAt ls i) z = (B, ((B.length : Nat) : Int)) := by
        rw [← HS.out.2.2.1, cr1, HS.out.2.2.2.1, Int.toNat_natCast, ← HE.out]
       rw [e]
       exact hv2
      ·have h1 : Out O W V := HS.out.1.under HX.out.2
       exact h1.drew.trans M.out (fun x hx => hx)
     clear M m0 m1 m4 m5 m6 m7 m8 r3 o3 z0V z1V c4V l0 l1
     generalize World.setCell _ _ _ = V9 at HF ⊢
     go_wp2
     go_roundw
     case rel => exact ⟨i + 1, by simp, by omega, HF.out.1, HF.out.2⟩
     case measure => simp [intOf]; omega
   ·have hin' : (n : Int) ≤ i := by omega
    have hk0 : k = (0, 0) := by rw [hk, lossAt, List.getD, List.getElem?_eq_none (by have := hls.1; omega)]; rfl
    have HX : Hid (Blk (wr.alloc (.cells #[.int .i64 0, .int .i64 0] 114)) q [.int .i64 k.1, .int .i64 k.2] 114 ∧ Below wr.heap.size wr (wr.alloc (.cells #[.int .i64 0, .int .i64 0] 114))) := by
     refine ⟨by rw [hk0]; exact Blk.new' hq.symm rfl, (Below.refl _ _).alloc (Nat.le_refl _) _⟩
    clear hls hz hdn hk hv ho c4 z0 z1 c4' hB hk0
    go_upto_region 6 with fail
    rw [← hq]
    generalize hVV : World.alloc _ _ = V at HX ⊢
    clear hVV hq
    have lb : Blk V q [.int .i64 k.1, .int .i64 k.2] 114 := HX.out.1
    have hvV := HS.out.2.2.2.2.2.1.under HX.out.2
    have c4V := hvV.pcell.2.2.2.2
    rw [upTo_length, hN] at c4V
    obtain ⟨ua', uc', hu', _, z0V, z1V⟩ := hvV.at ((upTo_get (fun i z => cr1 (lossAt ls i) z) zs i).trans HS.out.2.1)
    have hue : ua' = ua ∧ uc' = uc := by rw [HU.out] at hu'; cases hu'; exact ⟨rfl, rfl⟩
    obtain ⟨rfl, rfl⟩ := hue
    have l0 : V.cell? ⟨q, 0, none⟩ = some (.int .i64 k.1) := lb.cell 0
    have l1 : V.cell? ⟨q, 1, none⟩ = some (.int .i64 k.2) := lb.cell 1
    obtain ⟨Lg, hLg⟩ := own_blk hvV.hg
    have hpg : p ≠ g := blk_ne hvV.hp hLg (by decide)
    have hqg : q ≠ g := blk_ne lb hLg (by decide)
    have HP : Hid (Blk V p [.int .i64 s.z, .int .i64 s.zb, .int .i64 s.b, .int .i64 s.r, .slice (some ⟨g, 0, none⟩) N cz] 105) := by
     have := hvV.hp
     rw [upTo_length, hN] at this
     exact this
    have HL : Hid (Blk V q [.int .i64 k.1, .int .i64 k.2] 114) := lb
    have HE : Hid (B = crashB z.1 dn k.1 k.2) := HS.out.2.2.2.2.2.2
    clear hvV hu' lb hLg
    refine wp_region_noPanic ?_
    go_region_law (go_simp; go_at_call 46; refine (HC.out _ (by exact HX.out.2.drew)).mono ?_; rintro e w3 ⟨rfl, r3, o3⟩; rw [← HE.out] at r3; have M := HM.out _ w3 (by exact HX.out.2.drew) r3 o3; have m4 : w3.cell? ⟨p, 4, none⟩ = some (.slice (some ⟨g, 0, none⟩) N cz) := (M.blk HP.out (by decide)).cell 4; have m0 : w3.cell? ⟨q, 0, none⟩ = some (.int .i64 k.1) := (M.blk HL.out (by decide)).cell 0; have m1 : w3.cell? ⟨q, 1, none⟩ = some (.int .i64 k.2) := (M.blk HL.out (by decide)).cell 1; have m5 := M.c0; have m6 := M.c1; have m7 := M.f0; have m8 := M.f1; rw [← HE.out])
    all_goals
     refine NoPanic.normal ?_
     have HF : Hid ((∃ vs', DvV 105 (fun x => O x ∨ W.heap.size ≤ x) ((w3.setCell ⟨g, i * 2, none⟩ (.slice ua' B.length uc')).setCell ⟨g, i * 2 + 1, none⟩ (.int .i64 (B.length : Nat))) p s (upTo (fun i z => cr1 (lossAt ls i) z) zs (i + 1)) g cz vs') ∧ Out O W ((w3.setCell ⟨g, i * 2, none⟩ (.slice ua' B.length uc')).setCell ⟨g, i * 2 + 1, none⟩ (.int .i64 (B.length : Nat)))) := by
      refine ⟨?_, ?_⟩
      ·obtain ⟨vs2, hv2⟩ := M.dev
       refine ⟨vs2, ?_⟩
       rw [← upTo_next _ _ HS.out.2.1]
       have e : cr1 (lossAt ls i) z = (B, ((B.length : Nat) : Int)) := by
        rw [← HS.out.2.2.1, cr1, HS.out.2.2.2.1, Int.toNat_natCast, ← HE.out]
       rw [e]
       exact hv2
      ·have h1 : Out O W V := HS.out.1.under HX.out.2
       exact h1.drew.trans M.out (fun x hx => hx)
     clear M m0 m1 m4 m5 m6 m7 m8 r3 o3 z0V z1V c4V l0 l1
     generalize World.setCell _ _ _ = V9 at HF ⊢
     go_wp2
     go_roundw
     case rel => exact ⟨i + 1, by simp, by omega, HF.out.1, HF.out.2⟩
     case measure => simp [intOf]; omega
  ·obtain rfl : i = N := by omega
   have HS : Hid (DvV 105 (fun x => O x ∨ W.heap.size ≤ x) wr p s (upTo (fun i z => cr1 (lossAt ls i) z) zs i) g cz vs' ∧ Out O W wr) := ⟨hv, ho⟩
   clear hv ho c4 c4'
   go_wp2
   go_end0
   refine ⟨⟨_, rfl⟩, ⟨g, cz, vs', ?_⟩, HS.out.2⟩
   have := HS.out.1
   rw [upTo_all _ _ (by omega)] at this
   exact this.mono (fun x hx hlt => by
    rcases hx with h | h
    ·exact .inl h
    ·exact .inr ⟨h, hlt⟩)
end
end
end Go.Proofs.YtcdnjeiamihhbabGreat
