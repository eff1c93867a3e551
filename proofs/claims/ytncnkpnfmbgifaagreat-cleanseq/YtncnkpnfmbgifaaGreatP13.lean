/- Texts of this seat, one behind the other: ZRd, ZRRight, ZNew, CkHeld. -/
import Derived.Test.YtncnkpnfmbgifaaGreatP12
import Derived.Test.YtncnkpnfmbgifaaGreatP4
import Derived.Test.YtncnkpnfmbgifaaGreatP8
/- What one call of Read does, the program's and the document's. -/
namespace Go.Proofs.YtncnkpnfmbgifaaGreat
open Go.RowKit Go.Shelf
set_option linter.unusedVariables false
set_option maxRecDepth 4000

theorem Wf.short {s : Sh} {zs : List Zn} (h : Wf s zs) : ShortZ zs := by
 intro z hz D hD
 have := (h.zone z hz).2.2.2 D hD
 have := power_bounds h.right.2.2.2.2.1
 omega
def zoneIn (zs : List Zn) (zn : Int) : Prop := 0 ≤ zn ∧ zn ≤ (zs.length : Int) - 1
instance (zs : List Zn) (zn : Int) : Decidable (zoneIn zs zn) := by unfold zoneIn; infer_instance
def blockIn (zs : List Zn) (zn bn : Int) : Prop := 0 ≤ bn ∧ bn ≤ ((atZ zs zn).1.length : Int) - 1
instance (zs : List Zn) (zn bn : Int) : Decidable (blockIn zs zn bn) := by unfold blockIn; infer_instance
def rdE (zs : List Zn) (zn bn : Int) : Int := if zoneIn zs zn then (if blockIn zs zn bn then 0 else 102) else 100
def rdB (zs : List Zn) (zn bn : Int) : List Int := if zoneIn zs zn then (if blockIn zs zn bn then (atZ zs zn).1.getD bn.toNat [] else []) else []
def ReadE (k : IntKind) (W : World) (zs : List Zn) (zn bn : Int) (e : Ending) (w' : World) : Prop :=
 ∃ h, e = .returned (.tuple #[h, .int k (rdE zs zn bn)]) ∧ BkAt (fun x => W.heap.size ≤ x) w' h (rdB zs zn bn) ∧ Below W.heap.size W w'
theorem BkAt.nil (O : Nat → Prop) (W : World) : BkAt O W (.slice none 0 0) [] := ⟨World.ownsRow_nil _ _ _ _, (fun c h => by cases h), by simp, by simp⟩

section
variable {O : Nat → Prop} {W : World} {p : Nat} {s : Sh} {zs : List Zn}
theorem read_no {k : IntKind} {zn bn : Int} {W1 : World} (h : ¬ zoneIn zs zn) (hb : Below W.heap.size W W1) : ReadE k W zs zn bn (.returned (.tuple #[.slice none 0 0, .int k 100])) W1 := by
 unfold ReadE rdE rdB; rw [if_neg h, if_neg h]; exact ⟨_, rfl, BkAt.nil _ _, hb⟩
theorem read_none {k : IntKind} {zn bn : Int} {W1 : World} (h : zoneIn zs zn) (h2 : ¬ blockIn zs zn bn) (hb : Below W.heap.size W W1) : ReadE k W zs zn bn (.returned (.tuple #[.slice none 0 0, .int k 102])) W1 := by
 unfold ReadE rdE rdB; rw [if_pos h, if_neg h2, if_pos h, if_neg h2]; exact ⟨_, rfl, BkAt.nil _ _, hb⟩
theorem read_ok {k : IntKind} {i j : Nat} {z : Zn} {D : List Int} {v : Value} {W1 : World} (hz : zs[i]? = some z) (hD : z.1[j]? = some D) (hk : BkAt (fun x => W.heap.size ≤ x) W1 v D) (hb : Below W.heap.size W W1) : ReadE k W zs i j (.returned (.tuple #[v, .int k 0])) W1 := by
 have hi := (List.getElem?_eq_some_iff.1 hz).1
 have hj := (List.getElem?_eq_some_iff.1 hD).1
 have h1 : zoneIn zs i := ⟨by omega, by omega⟩
 have h2 : blockIn zs i j := ⟨by omega, by rw [atZ_in hz]; omega⟩
 unfold ReadE rdE rdB; rw [if_pos h1, if_pos h2, if_pos h1, if_pos h2, atZ_in hz]
 exact ⟨v, rfl, by simpa [List.getD, hD] using hk, hb⟩
theorem DvV.block {T : TypeId} {g c : Nat} {vs : List Value} {i j : Nat} {z : Zn} {D : List Int} {ua : Option Addr} {uc : Nat} (hv : DvV T O W p s zs g c vs) (hw : Wf s zs) (hz : zs[i]? = some z) (hu : vs[i]? = some (.slice ua z.1.length uc)) (hD : z.1[j]? = some D) :
  ∃ b off A L C, ua = some ⟨b, off, none⟩ ∧ W.cell? ⟨b, off + j, none⟩ = some (.slice A L C) ∧ BIn W A L D ∧ (A = none → L = 0 ∧ C = 0) ∧ L ≤ 100000 := by
 have hr := hv.rows i _ z hu hz
 have hbs := hr.bsin (hw.short z (List.mem_of_getElem? hz))
 obtain ⟨b, off, ha, hc⟩ := hbs.2.2.resolve_left (by have := (List.getElem?_eq_some_iff.1 hD).1; omega)
 obtain ⟨v, h1, A, L, C, rfl, h2, h3, h4, h5⟩ := hc j D hD
 exact ⟨b, off, A, L, C, ha, h1, h2, h3, h5⟩

set_option maxHeartbeats 4000000 in
theorem read_of (zn bn : Int) (hd : Dv 122 O W p s zs) (hw : Wf s zs) :
  Calls Tryz.prog 61 #[.pointer (some ⟨p, 0, none⟩), .agg #[.int .i64 zn, .int .i64 bn]] W (ReadE .u16 W zs zn bn) := by
 obtain ⟨q, hq⟩ : ∃ q, q = W.heap.size := ⟨_, rfl⟩
 have ab : Blk (W.alloc (.cells #[.int .i64 zn, .int .i64 bn] 49)) q [.int .i64 zn, .int .i64 bn] 49 := Blk.new' hq.symm rfl
 have abel : Below q W (W.alloc (.cells #[.int .i64 zn, .int .i64 bn] 49)) := (Below.refl _ _).alloc (by omega) _
 have hd1 : Dv 122 O (W.alloc (.cells #[.int .i64 zn, .int .i64 bn] 49)) p s zs := by
  obtain ⟨g, c, vs, hv⟩ := hd; exact ⟨g, c, vs, hv.under (by rw [← hq]; exact abel)⟩
 go_enter Tryz.func61, Tryz.ntmps61
 go_upto_region 1 with fail
 rw [← hq]
 generalize hW1 : World.alloc _ _ = W1 at *
 clear hW1
 have hh := has_of zn hd1
 have e0 : W1.cell? ⟨q, 0, none⟩ = some (.int .i64 zn) := ab.cell 0
 have e1 : W1.cell? ⟨q, 1, none⟩ = some (.int .i64 bn) := ab.cell 1
 have HA : Hid (Below W.heap.size W W1 ∧ Wf s zs) := ⟨by rw [← hq]; exact abel, hw⟩
 clear ab abel hd hw hq
 rcases zone_cases zs zn with ⟨i, z, rfl, hz, hi, hbb⟩ | ⟨hno, hbb⟩
 ·rw [hbb] at hh
  have HH : Hid (Calls Tryz.prog 62 #[.pointer (some ⟨p, 0, none⟩), .int .i64 (i : Int)] W1 fun e w' => e = .returned (.bool true) ∧ w' = W1) := hh
  obtain ⟨g, cz, vs, hv⟩ := hd1
  obtain ⟨ua, uc, hu, hr, z0, z1⟩ := hv.at hz
  obtain ⟨p0, p1, p2, p3, c4⟩ := hv.pcell
  have hi' : (i : Int) < zs.length := by omega
  have hzi : zoneIn zs i := ⟨by omega, by omega⟩
  have hzl := (HA.out.2.zone z (List.mem_of_getElem? hz)).1
  have hzr := HA.out.2.right.2.2.2.1
  have hwl : IntKind.i64.wrap ((z.1.length : Int) - 1) = (z.1.length : Int) - 1 := by rw [IntKind.wrap_i64]; omega
  clear hh hbb
  by_cases hbi : 0 ≤ bn ∧ bn ≤ (z.1.length : Int) - 1
  ·obtain ⟨j, rfl⟩ : ∃ j : Nat, bn = j := ⟨bn.toNat, by omega⟩
   have hj : j < z.1.length := by omega
   obtain ⟨D, hD⟩ : ∃ D, z.1[j]? = some D := ⟨z.1[j], by simp⟩
   obtain ⟨b, off, A, L, C, rfl, k1, k2, k3, k4⟩ := hv.block HA.out.2 hz hu hD
   have HI : Hid (∀ n, ∃ a' c' w', (Builtin.append_ #[43, 43] 43 #[.slice none 0 0, .slice A L C]).run Tryz.prog (W1.drewN n) = .ok (.slice a' L c') w' ∧ BkAt (fun k => (W1.drewN n).heap.size ≤ k) w' (.slice a' L c') D ∧ Below (W1.drewN n).heap.size (W1.drewN n) w') := fun n => run_lent (W := W1.drewN n) (k2.below (below_drewN _ _)) k3 (by omega)
   have HZ : Hid (zs[i]? = some z ∧ z.1[j]? = some D) := ⟨hz, hD⟩
   have hbt : (decide (0 ≤ (j : Int)) && decide ((j : Int) ≤ (z.1.length : Int) - 1)) = true := by simp; omega
   have hbt2 : decide ((j : Int) ≤ (z.1.length : Int) - 1) = true := by simp; omega
   have hj' : (j : Int) < z.1.length := by omega
   clear k2 k3 k4 hv hr hu hz hD hbi hzl hzr
   go_upto_region 3 with (go_at_call 62; refine HH.out.mono ?_; rintro e W1 ⟨rfl, rfl⟩)
   go_quiet (fail)
   obtain ⟨a', c', w', hrun, hbk, hbl⟩ := HI.out nq
   have HR : Hid ((Builtin.append_ #[43, 43] 43 #[.slice none 0 0, .slice A L C]).run Tryz.prog (W1.drewN nq) = .ok (.slice a' L c') w' ∧ BkAt (fun k => (W1.drewN nq).heap.size ≤ k) w' (.slice a' L c') D ∧ Below (W1.drewN nq).heap.size (W1.drewN nq) w') := ⟨hrun, hbk, hbl⟩
   clear hrun hbk hbl
   go_wp2_with (first
    | (go_at_call 112; refine (within_of _ _ _ _).mono ?_; rintro e w9 ⟨rfl, rfl⟩)
    | (at_builtin; refine wpList_append_run rfl (.const (.slice none 0 0)) (.tmp 32) 43 43 rfl _ _ rfl rfl _ _ HR.out.1 ?_))
   go_ret2
   have hsz := HA.out.1.size
   exact read_ok HZ.out.1 HZ.out.2 (HR.out.2.1.mono (fun x hx _ => Nat.le_trans hsz hx)) (HA.out.1.trans (((below_drewN W1 nq).trans HR.out.2.2).mono hsz))
  ·have hbf : (decide (0 ≤ bn) && decide (bn ≤ (z.1.length : Int) - 1)) = false := by simp; omega
   have HN : Hid (zoneIn zs i ∧ ¬ blockIn zs i bn) := ⟨hzi, by unfold blockIn; rw [atZ_in hz]; exact hbi⟩
   clear hv hr hu hz hbi hzl hzr hzi
   go_upto_region 3 with (go_at_call 62; refine HH.out.mono ?_; rintro e W1 ⟨rfl, rfl⟩)
   go_quiet (fail)
   go_wp2_with (go_at_call 112; refine (within_of _ _ _ _).mono ?_; rintro e w9 ⟨rfl, rfl⟩)
   go_ret2
   exact read_none HN.out.1 HN.out.2 (HA.out.1.trans ((below_drewN W1 nq).mono HA.out.1.size))
 ·rw [hbb] at hh
  have HH : Hid (Calls Tryz.prog 62 #[.pointer (some ⟨p, 0, none⟩), .int .i64 zn] W1 fun e w' => e = .returned (.bool false) ∧ w' = W1) := hh
  have HN : Hid (¬ zoneIn zs zn) := hno
  clear hh hbb hno hd1
  go_wp2_with (go_at_call 62; refine HH.out.mono ?_; rintro e W1 ⟨rfl, rfl⟩)
  go_ret2
  exact read_no HN.out HA.out.1
end
end Go.Proofs.YtncnkpnfmbgifaaGreat

/- What one call of the document's Right does; of Small. -/
namespace Go.Proofs.YtncnkpnfmbgifaaGreat
open Go.RowKit Go.Shelf
set_option linter.unusedVariables false
set_option maxRecDepth 4000

def SmallS (s : Sh) : Prop := s.z ≤ 12 ∧ s.zb ≤ 16 ∧ s.b ≤ 128
instance (s : Sh) : Decidable (SmallS s) := by unfold SmallS; infer_instance
theorem small_of (s : Sh) (w : World) :
  Calls Tryz.prog 67 #[.agg (shL s).toArray] w fun e w' => e = .returned (.bool (decide (SmallS s))) ∧ Below w.heap.size w w' := by
 obtain ⟨z, zb, b, r⟩ := s
 obtain ⟨B, hB⟩ : ∃ B, B = decide (SmallS ⟨z, zb, b, r⟩) := ⟨_, rfl⟩
 rw [← hB]
 have HB : Hid (B = decide (SmallS ⟨z, zb, b, r⟩)) := hB
 clear hB
 have bw : Hid (∀ o, Below w.heap.size w (w.alloc o)) := fun o => (Below.refl _ _).alloc (Nat.le_refl _) o
 simp only [shL]
 by_cases h1 : z ≤ 12
 ·by_cases h2 : zb ≤ 16
  ·have hf : B = decide (b ≤ 128) := by rw [HB.out]; simp [SmallS, h1, h2]
   clear HB
   subst hf
   go_enter Tryz.func67, Tryz.ntmps67
   go_wp2
   go_ret
   exact ⟨by simp, bw.out _⟩
  ·have hf : B = false := by rw [HB.out]; simp [SmallS, h2]
   clear HB
   subst hf
   go_enter Tryz.func67, Tryz.ntmps67
   go_wp2
   go_ret
   exact ⟨rfl, bw.out _⟩
 ·have hf : B = false := by rw [HB.out]; simp [SmallS, h1]
  clear HB
  subst hf
  go_enter Tryz.func67, Tryz.ntmps67
  go_wp2
  go_ret
  exact ⟨rfl, bw.out _⟩

def pw (k : Nat) : Int := 64 * 2 ^ k
theorem pw_at : ∀ k : Fin 7, Powers[k.val]? = some (pw k.val) ∧ 64 ≤ pw k.val ∧ pw k.val ≤ 4096 ∧ pw (k.val + 1) = 2 * pw k.val := by decide
theorem pw_mem {b : Int} {k : Nat} (h : k < 7) : decide (b ∈ Powers.take (k + 1)) = (decide (b ∈ Powers.take k) || decide (pw k = b)) := by
 rw [take_snoc (pw_at ⟨k, h⟩).1, ← Bool.decide_or]
 apply decide_eq_decide.2
 simp [eq_comm]

set_option maxHeartbeats 2000000 in
theorem rRight_of (s : Sh) (w : World) (hz : -9223372036854775808 ≤ s.z) :
  Calls Tryz.prog 127 #[.agg (shL s).toArray] w fun e w' => e = .returned (.bool (decide (RightS s))) ∧ Below w.heap.size w w' := by
 obtain ⟨z, zb, b, r⟩ := s
 obtain ⟨B, hB⟩ : ∃ B, B = decide (RightS ⟨z, zb, b, r⟩) := ⟨_, rfl⟩
 rw [← hB]
 have HB : Hid (B = decide (RightS ⟨z, zb, b, r⟩)) := hB
 clear hB
 obtain ⟨W, hW⟩ : ∃ W, W = w.alloc (.cells #[.int .i64 z, .int .i64 zb, .int .i64 b, .int .i64 r] 23) := ⟨_, rfl⟩
 have bw : Hid (Below w.heap.size w W) := by
  show Below _ _ _
  rw [hW]; exact (Below.refl _ _).alloc (Nat.le_refl _) _
 have hb : Blk W w.heap.size [.int .i64 z, .int .i64 zb, .int .i64 b, .int .i64 r] 23 := by rw [hW]; exact Blk.new' rfl rfl
 have c0 : W.cell? ⟨w.heap.size, 0, none⟩ = some (.int .i64 z) := hb.cell 0
 have c1 : W.cell? ⟨w.heap.size, 1, none⟩ = some (.int .i64 zb) := hb.cell 1
 have c2 : W.cell? ⟨w.heap.size, 2, none⟩ = some (.int .i64 b) := hb.cell 2
 have c3 : W.cell? ⟨w.heap.size, 3, none⟩ = some (.int .i64 r) := hb.cell 3
 simp only [shL]
 dsimp only at hz
 go_enter Tryz.func127, Tryz.ntmps127
 go_upto_region 1 with fail
 generalize hq : w.heap.size = q at *
 rw [← hW]
 clear hW hb
 go_wp2
 go_loopw [3, 4] (fun p n wr => ∃ k : Nat, k ≤ 7 ∧ p = .bool (decide (b ∈ Powers.take k)) ∧ n = .int .i64 (pw k) ∧ wr = W) (fun p n wr => 8192 - (intOf n).toNat)
 case atStart => exact ⟨0, by omega, by simp, rfl, rfl⟩
 case round =>
  obtain ⟨k, hk, rfl, rfl, rfl⟩ := hrel
  rcases Nat.lt_or_ge k 7 with h7 | h7
  ·obtain ⟨n0, n1, n2, n3⟩ := pw_at ⟨k, h7⟩
   clear n0
   have hm := pw_mem (b := b) h7
   have HM : Hid (decide (b ∈ Powers.take (k + 1)) = (decide (b ∈ Powers.take k) || decide (pw k = b)) ∧ pw (k + 1) = 2 * pw k ∧ k < 7 ∧ 64 ≤ pw k) := ⟨hm, n3, h7, n1⟩
   dsimp only at n1 n2
   generalize hN : pw k = N at *
   have hw : IntKind.i64.wrap (2 * N) = 2 * N := by rw [IntKind.wrap_i64]; omega
   generalize hP : decide (b ∈ Powers.take k) = P at *
   clear hm h7 hk hN hP n3 n1
   cases P with
   | true =>
    go_wp2
    go_roundw
    case rel => exact ⟨k + 1, by have := HM.out.2.2.1; omega, by rw [HM.out.1]; rfl, by rw [HM.out.2.1], (by first | rfl | trivial)⟩
    case measure => have := HM.out.2.2.2; simp [intOf]; omega
   | false =>
    go_wp2
    go_roundw
    case rel => exact ⟨k + 1, by have := HM.out.2.2.1; omega, (by rw [HM.out.1]; simp; rfl), by rw [HM.out.2.1], (by first | rfl | trivial)⟩
    case measure => have := HM.out.2.2.2; simp [intOf]; omega
  ·have hk7 : k = 7 := by omega
   subst hk7
   have e7 : pw 7 = 8192 := rfl
   have t7 : Powers.take 7 = Powers := rfl
   rw [e7, t7]
   clear hk h7
   by_cases h0 : 6 ≤ z
   ·by_cases h1 : z ≤ 256
    ·by_cases h2 : 8 ≤ zb
     ·by_cases h3 : zb ≤ 4096
      ·by_cases h4 : b ∈ Powers
       ·by_cases h5 : 2 ≤ r
        ·have hf : B = decide (r ≤ z - 4) := by rw [HB.out]; exact decide_eq_decide.2 ⟨fun h => h.2.2.2.2.2.2, fun h => ⟨h0, h1, h2, h3, h4, h5, h⟩⟩
         clear HB
         subst hf
         rw [decide_eq_true h4]
         clear h4
         have hw4 : IntKind.i64.wrap (z - 4) = z - 4 := by rw [IntKind.wrap_i64]; omega
         go_wp2
         go_ret
         exact ⟨by simp, by first | exact bw.out | (rw [hq]; exact bw.out)⟩
        ·have hf : B = false := by rw [HB.out]; exact decide_eq_false (fun h => h5 h.2.2.2.2.2.1)
         clear HB
         subst hf
         rw [decide_eq_true h4]
         clear h4
         go_wp2
         go_ret
         exact ⟨rfl, by first | exact bw.out | (rw [hq]; exact bw.out)⟩
       ·have hf : B = false := by rw [HB.out]; exact decide_eq_false (fun h => h4 h.2.2.2.2.1)
        clear HB
        subst hf
        rw [decide_eq_false h4]
        clear h4
        go_wp2
        go_ret
        exact ⟨rfl, by first | exact bw.out | (rw [hq]; exact bw.out)⟩
      ·have hf : B = false := by rw [HB.out]; exact decide_eq_false (fun h => h3 h.2.2.2.1)
       clear HB
       subst hf
       generalize decide (b ∈ Powers) = P
       go_wp2
       go_ret
       exact ⟨rfl, by first | exact bw.out | (rw [hq]; exact bw.out)⟩
     ·have hf : B = false := by rw [HB.out]; exact decide_eq_false (fun h => h2 h.2.2.1)
      clear HB
      subst hf
      generalize decide (b ∈ Powers) = P
      go_wp2
      go_ret
      exact ⟨rfl, by first | exact bw.out | (rw [hq]; exact bw.out)⟩
    ·have hf : B = false := by rw [HB.out]; exact decide_eq_false (fun h => h1 h.2.1)
     clear HB
     subst hf
     generalize decide (b ∈ Powers) = P
     go_wp2
     go_ret
     exact ⟨rfl, by first | exact bw.out | (rw [hq]; exact bw.out)⟩
   ·have hf : B = false := by rw [HB.out]; exact decide_eq_false (fun h => h0 h.1)
    clear HB
    subst hf
    generalize decide (b ∈ Powers) = P
    go_wp2
    go_ret
    exact ⟨rfl, by first | exact bw.out | (rw [hq]; exact bw.out)⟩
end Go.Proofs.YtncnkpnfmbgifaaGreat

/- What one call of New does, the program's and the document's. -/
namespace Go.Proofs.YtncnkpnfmbgifaaGreat
open Go.RowKit Go.Shelf
set_option linter.unusedVariables false
set_option maxRecDepth 4000

def emptyZ (n : Nat) : List Zn := List.replicate n ([], 0)
def Newed (T : TypeId) (W : World) (s : Sh) (e : Ending) (w' : World) : Prop :=
 Below W.heap.size W w' ∧ ((¬ RightS s ∧ e = .returned (.pointer none)) ∨ (RightS s ∧ ∃ p, e = .returned (.pointer (some ⟨p, 0, none⟩)) ∧ Dv T (fun x => W.heap.size ≤ x) w' p s (emptyZ s.z.toNat)))
theorem empty_wf {s : Sh} (h : RightS s) : Wf s (emptyZ s.z.toNat) := by
 refine ⟨h, ?_, fun z hz => ?_⟩
 ·have := h.1; simp [emptyZ]; omega
 ·have := (List.mem_replicate.1 hz).2
  subst this
  have := h.2.2.1
  simp; omega
theorem made_zones (n : Nat) : (madeCells (Value.agg #[.slice none 0 0, .int .i64 0]).cells (n * 2)).toList = zcells (List.replicate n (.slice none 0 0)) (emptyZ n) := by
 have hl : (zcells (List.replicate n (.slice none 0 0)) (emptyZ n)).length = n * 2 := by
  rw [zcells_length _ _ (by simp [emptyZ])]; simp [emptyZ]
 apply List.ext_getElem?
 intro i
 rcases Nat.lt_or_ge i (n * 2) with hi | hi
 ·have hk : i / 2 < n := by omega
  obtain ⟨g0, g1⟩ := zcells_get (List.replicate n (.slice none 0 0)) (emptyZ n) (i / 2) (.slice none 0 0) ([], 0) (by simp [hk]) (by simp [emptyZ, hk])
  rcases Nat.mod_two_eq_zero_or_one i with h | h
  ·have e : 2 * (i / 2) = i := by omega
   rw [e] at g0
   rw [g0]
   simp [madeCells, hi]
   show (#[Value.slice none 0 0, Value.int IntKind.i64 0])[i % 2]! = _
   rw [h]; rfl
  ·have e : 2 * (i / 2) + 1 = i := by omega
   rw [e] at g1
   rw [g1]
   simp [madeCells, hi]
   show (#[Value.slice none 0 0, Value.int IntKind.i64 0])[i % 2]! = _
   rw [h]; rfl
 ·rw [List.getElem?_eq_none (by rw [Array.length_toList, size_madeCells]; omega), List.getElem?_eq_none (by omega)]

theorem dev_new {T : TypeId} {W : World} {s : Sh} {n p g : Nat} (hT : T ≠ 120 ∧ T ≠ 43 ∧ T ≠ 5) (O : Nat → Prop) (hn : n ≤ 1000) (hp : Blk W p [.int .i64 s.z, .int .i64 s.zb, .int .i64 s.b, .int .i64 s.r, .slice (some ⟨g, 0, none⟩) n n] T) (hg : W.ownsRow 0 120 2 (.slice (some ⟨g, 0, none⟩) n n) n (madeCells (Value.agg #[.slice none 0 0, .int .i64 0]).cells (n * 2)).toList) (op : O p) (og : O g) : Dv T O W p s (emptyZ n) := by
 have hl : (emptyZ n).length = n := by simp [emptyZ]
 rw [made_zones] at hg
 refine ⟨g, n, List.replicate n (.slice none 0 0), ⟨by rw [hl]; exact hp, by rw [hl]; exact hg, op, og, by simp [emptyZ], fun i u z h1 h2 => ?_, fun i j u v r h1 h2 e1 _ => ?_, by rw [hl]; exact hn, hT⟩⟩
 ·have hu := (List.mem_replicate.1 (List.mem_of_getElem? h1)).2
  have hz := (List.mem_replicate.1 (List.mem_of_getElem? h2)).2
  subst hu; subst hz
  exact RowAt.nil _ _
 ·have hu := (List.mem_replicate.1 (List.mem_of_getElem? h1)).2
  subst hu
  cases e1

set_option maxHeartbeats 4000000 in
theorem new_of (s : Sh) (W : World) (hz : -9223372036854775808 ≤ s.z) : Calls Tryz.prog 68 #[.agg (shL s).toArray] W (Newed 122 W s) := by
 obtain ⟨q, hq⟩ : ∃ q, q = W.heap.size := ⟨_, rfl⟩
 have hb : Blk (W.alloc (.cells #[.int .i64 s.z, .int .i64 s.zb, .int .i64 s.b, .int .i64 s.r] 23)) q (shL s) 23 := Blk.new' hq.symm rfl
 have hbel : Below q W (W.alloc (.cells #[.int .i64 s.z, .int .i64 s.zb, .int .i64 s.b, .int .i64 s.r] 23)) := (Below.refl _ _).alloc (by omega) _
 simp only [shL]
 go_enter Tryz.func68, Tryz.ntmps68
 go_upto_region 1 with fail
 rw [← hq]
 generalize hW1 : World.alloc _ _ = W1 at *
 clear hW1
 have e0 : W1.cell? ⟨q, 0, none⟩ = some (.int .i64 s.z) := hb.cell 0
 have e1 : W1.cell? ⟨q, 1, none⟩ = some (.int .i64 s.zb) := hb.cell 1
 have e2 : W1.cell? ⟨q, 2, none⟩ = some (.int .i64 s.b) := hb.cell 2
 have e3 : W1.cell? ⟨q, 3, none⟩ = some (.int .i64 s.r) := hb.cell 3
 have hR := right_of s W1 hz
 simp only [shL] at hR
 have HA : Hid (Blk W1 q (shL s) 23 ∧ Below W.heap.size W W1) := ⟨hb, by rw [← hq]; exact hbel⟩
 clear hb hbel hq
 by_cases hr : RightS s
 ·have hd : decide (RightS s) = true := by simp [hr]
  rw [hd] at hR
  have HR : Hid (Calls Tryz.prog 115 #[.agg #[.int .i64 s.z, .int .i64 s.zb, .int .i64 s.b, .int .i64 s.r]] W1 fun e w' => e = .returned (.bool true) ∧ Below W1.heap.size W1 w') := hR
  have HS : Hid (RightS s) := hr
  clear hR hd hr
  go_upto_region 3 with (go_at_call 115; refine HR.out.mono ?_; rintro e W2 ⟨rfl, b2⟩)
  have g0 := (b2.cell (old_block e0)).trans e0
  have g1 := (b2.cell (old_block e1)).trans e1
  have g2 := (b2.cell (old_block e2)).trans e2
  have g3 := (b2.cell (old_block e3)).trans e3
  obtain ⟨i0, hi, hz0, hz1, hz2⟩ := info_parts Tryz.zero_zone
  obtain ⟨n, hn⟩ : ∃ n : Nat, s.z = n := ⟨s.z.toNat, by have := HS.out.1; omega⟩
  have hnb := HS.out.2.1
  obtain ⟨w3, r3, o3, gr3⟩ := run_make_full (P := Tryz.prog) W2.drew 0 86 120 i0 _ 2 Tryz.underlying86 hi hz0 hz1 .i64 .i64 n (by rw [hz2]; omega) (by unfold maxLen; omega) (Nat.zero_le _)
  have HM : Hid (W2.heap.size = W2.drew.heap.size ∧ w3.ownsRow 0 120 2 (.slice (some ⟨W2.heap.size, 0, none⟩) n n) n (madeCells (Value.agg #[.slice none 0 0, .int .i64 0]).cells (n * 2)).toList ∧ Below W2.heap.size W2 w3 ∧ Below W1.heap.size W1 W2 ∧ s.z = n ∧ n ≤ 256) := ⟨rfl, o3, ⟨gr3.os, gr3.tape, gr3.output, gr3.size, fun k hk => gr3.block k hk (by simp)⟩, b2, hn, by omega⟩
  rw [hn] at g0
  have k0 := (HM.out.2.2.1.cell (old_block g0)).trans g0
  have k1 := (HM.out.2.2.1.cell (old_block g1)).trans g1
  have k2 := (HM.out.2.2.1.cell (old_block g2)).trans g2
  have k3 := (HM.out.2.2.1.cell (old_block g3)).trans g3
  clear e0 e1 e2 e3 o3 gr3 b2 hn hnb hi hz0 hz1 hz2
  go_region
  go_wp2
  go_ret
  obtain ⟨_, o3, b3, b2, hn, hn2⟩ := HM.out
  have hs1 := HA.out.2.size
  have hs2 := b2.size
  have hs3 := b3.size
  refine ⟨((HA.out.2.trans (b2.mono hs1)).trans (b3.mono (by omega))).alloc (by omega) _, .inr ⟨HS.out, _, rfl, ?_⟩⟩
  rw [hn, Int.toNat_natCast]
  refine dev_new (by decide) _ (by omega) ?_ (o3.alloc _) (by omega) (by omega)
  rw [hn]
  exact Blk.new' rfl rfl
 ·have hd : decide (RightS s) = false := by simp [hr]
  rw [hd] at hR
  have HR : Hid (Calls Tryz.prog 115 #[.agg #[.int .i64 s.z, .int .i64 s.zb, .int .i64 s.b, .int .i64 s.r]] W1 fun e w' => e = .returned (.bool false) ∧ Below W1.heap.size W1 w') := hR
  have HS : Hid (¬ RightS s) := hr
  clear hR hd hr
  go_wp2_with (go_at_call 115; refine HR.out.mono ?_; rintro e W2 ⟨rfl, b2⟩)
  go_ret
  exact ⟨HA.out.2.trans (b2.mono HA.out.2.size), .inl ⟨HS.out, rfl⟩⟩
set_option maxHeartbeats 4000000 in
theorem rNew_of (s : Sh) (W : World) (hz : -9223372036854775808 ≤ s.z) : Calls Tryz.prog 77 #[.agg (shL s).toArray] W (Newed 88 W s) := by
 obtain ⟨q, hq⟩ : ∃ q, q = W.heap.size := ⟨_, rfl⟩
 have hb : Blk (W.alloc (.cells #[.int .i64 s.z, .int .i64 s.zb, .int .i64 s.b, .int .i64 s.r] 23)) q (shL s) 23 := Blk.new' hq.symm rfl
 have hbel : Below q W (W.alloc (.cells #[.int .i64 s.z, .int .i64 s.zb, .int .i64 s.b, .int .i64 s.r] 23)) := (Below.refl _ _).alloc (by omega) _
 simp only [shL]
 go_enter Tryz.func77, Tryz.ntmps77
 go_upto_region 1 with fail
 rw [← hq]
 generalize hW1 : World.alloc _ _ = W1 at *
 clear hW1
 have e0 : W1.cell? ⟨q, 0, none⟩ = some (.int .i64 s.z) := hb.cell 0
 have e1 : W1.cell? ⟨q, 1, none⟩ = some (.int .i64 s.zb) := hb.cell 1
 have e2 : W1.cell? ⟨q, 2, none⟩ = some (.int .i64 s.b) := hb.cell 2
 have e3 : W1.cell? ⟨q, 3, none⟩ = some (.int .i64 s.r) := hb.cell 3
 have hR := rRight_of s W1 hz
 simp only [shL] at hR
 have HA : Hid (Blk W1 q (shL s) 23 ∧ Below W.heap.size W W1) := ⟨hb, by rw [← hq]; exact hbel⟩
 clear hb hbel hq
 by_cases hr : RightS s
 ·have hd : decide (RightS s) = true := by simp [hr]
  rw [hd] at hR
  have HR : Hid (Calls Tryz.prog 127 #[.agg #[.int .i64 s.z, .int .i64 s.zb, .int .i64 s.b, .int .i64 s.r]] W1 fun e w' => e = .returned (.bool true) ∧ Below W1.heap.size W1 w') := hR
  have HS : Hid (RightS s) := hr
  clear hR hd hr
  go_upto_region 4 with (go_at_call 127; refine HR.out.mono ?_; rintro e W2 ⟨rfl, b2⟩)
  have g0 := (b2.cell (old_block e0)).trans e0
  have g1 := (b2.cell (old_block e1)).trans e1
  have g2 := (b2.cell (old_block e2)).trans e2
  have g3 := (b2.cell (old_block e3)).trans e3
  obtain ⟨i0, hi, hz0, hz1, hz2⟩ := info_parts Tryz.zero_zone
  obtain ⟨n, hn⟩ : ∃ n : Nat, s.z = n := ⟨s.z.toNat, by have := HS.out.1; omega⟩
  have hnb := HS.out.2.1
  obtain ⟨w3, r3, o3, gr3⟩ := run_make_full (P := Tryz.prog) W2.drew 0 86 120 i0 _ 2 Tryz.underlying86 hi hz0 hz1 .i64 .i64 n (by rw [hz2]; omega) (by unfold maxLen; omega) (Nat.zero_le _)
  have HM : Hid (W2.heap.size = W2.drew.heap.size ∧ w3.ownsRow 0 120 2 (.slice (some ⟨W2.heap.size, 0, none⟩) n n) n (madeCells (Value.agg #[.slice none 0 0, .int .i64 0]).cells (n * 2)).toList ∧ Below W2.heap.size W2 w3 ∧ Below W1.heap.size W1 W2 ∧ s.z = n ∧ n ≤ 256) := ⟨rfl, o3, ⟨gr3.os, gr3.tape, gr3.output, gr3.size, fun k hk => gr3.block k hk (by simp)⟩, b2, hn, by omega⟩
  rw [hn] at g0
  have k0 := (HM.out.2.2.1.cell (old_block g0)).trans g0
  have k1 := (HM.out.2.2.1.cell (old_block g1)).trans g1
  have k2 := (HM.out.2.2.1.cell (old_block g2)).trans g2
  have k3 := (HM.out.2.2.1.cell (old_block g3)).trans g3
  clear e0 e1 e2 e3 o3 gr3 b2 hn hnb hi hz0 hz1 hz2
  go_region
  go_wp2
  go_ret
  obtain ⟨_, o3, b3, b2, hn, hn2⟩ := HM.out
  have hs1 := HA.out.2.size
  have hs2 := b2.size
  have hs3 := b3.size
  refine ⟨((HA.out.2.trans (b2.mono hs1)).trans (b3.mono (by omega))).alloc (by omega) _, .inr ⟨HS.out, _, rfl, ?_⟩⟩
  rw [hn, Int.toNat_natCast]
  refine dev_new (by decide) _ (by omega) ?_ (o3.alloc _) (by omega) (by omega)
  rw [hn]
  exact Blk.new' rfl rfl
 ·have hd : decide (RightS s) = false := by simp [hr]
  rw [hd] at hR
  have HR : Hid (Calls Tryz.prog 127 #[.agg #[.int .i64 s.z, .int .i64 s.zb, .int .i64 s.b, .int .i64 s.r]] W1 fun e w' => e = .returned (.bool false) ∧ Below W1.heap.size W1 w') := hR
  have HS : Hid (¬ RightS s) := hr
  clear hR hd hr
  go_wp2_with (go_at_call 127; refine HR.out.mono ?_; rintro e W2 ⟨rfl, b2⟩)
  go_ret
  exact ⟨HA.out.2.trans (b2.mono HA.out.2.size), .inl ⟨HS.out, rfl⟩⟩
end Go.Proofs.YtncnkpnfmbgifaaGreat

/- What one call of ckpt's held does. -/
namespace Go.Proofs.YtncnkpnfmbgifaaGreat
open Go.RowKit Go.Shelf
set_option linter.unusedVariables false
set_option maxRecDepth 4000

theorem kdv_under {T : TypeId} {O : Nat → Prop} {W W' : World} {p : Nat} {s : Sh} {zs : List Zn} (h : Dv T O W p s zs) (hb : Below W.heap.size W W') : Dv T O W' p s zs := by
 obtain ⟨g, c, vs, hv⟩ := h; exact ⟨g, c, vs, hv.under hb⟩
theorem rd_at {zs : List Zn} {i j : Nat} {z : Zn} {D : List Int} (hz : zs[i]? = some z) (hD : z.1[j]? = some D) : rdE zs i j = 0 ∧ rdB zs i j = D := by
 have hi := (List.getElem?_eq_some_iff.1 hz).1
 have hj := (List.getElem?_eq_some_iff.1 hD).1
 have h1 : zoneIn zs i := ⟨by omega, by omega⟩
 have h2 : blockIn zs i j := ⟨by omega, by rw [atZ_in hz]; omega⟩
 unfold rdE rdB
 rw [if_pos h1, if_pos h2, if_pos h1, if_pos h2, atZ_in hz]
 exact ⟨rfl, by simp [List.getD, hD]⟩
end Go.Proofs.YtncnkpnfmbgifaaGreat
