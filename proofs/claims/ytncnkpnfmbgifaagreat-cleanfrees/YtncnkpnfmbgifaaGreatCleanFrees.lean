/- For every shape and list of calls the statement CleanFrees returns true: a step that goes well makes just the zone that was picked free, nothing is in it, and all that there is is there for good. -/
import Derived.Test.YtncnkpnfmbgifaaGreatRows
import Derived.Test.YtncnkpnfmbgifaaGreatS7
import Derived.Test.YtncnkpnfmbgifaaGreatQ21
import Derived.BigQuiet
import Derived.Lib.QuietBelow
import Derived.Deep.RegionHeld3
import Derived.WalkKit
import Derived.ProofKit
import Derived.OpenShut
import Derived.ShutString
import Derived.ChangeOld
import Derived.Below
namespace Go.Proofs.YtncnkpnfmbgifaaGreat.cleanFrees
open Go.ChangeShapes Go.WideShapes Go.ChangeAt Go.RowKit
open Go.ChangeMaps (open_string shut_string)
set_option linter.unusedVariables false

theorem own : ownKnob Tryz.prog.godebug = none := by kernel_rfl
theorem laidOut : laidOutB Tryz.prog = true := by kernel_rfl

set_option maxRecDepth 20000 in
set_option maxHeartbeats 8000000 in
theorem walk (s0 : Sh) (a1 : Option Addr) (n1 c1 : Nat) (x1 : List Od) (w : World) (w0 : ShF s0) (w1 : OdsR w a1 n1 x1 ∧ n1 ≤ c1 ∧ (a1 = none → n1 = 0 ∧ c1 = 0) ∧ ∀ o ∈ x1, Fits8 o.k ∧ F64 o.z) :
  Calls Tryz.prog 6 #[.agg (shL s0).toArray, .slice a1 n1 c1] w fun e w' => e = .returned (.bool true) ∧ Below w.heap.size w w' := by
 obtain ⟨hpr, hnc, hnil, hof⟩ := w1
 have hb0 : Below w.heap.size w (w.alloc (.cells #[.int .i64 s0.z, .int .i64 s0.zb, .int .i64 s0.b, .int .i64 s0.r] 23)) := (Below.refl _ _).alloc (Nat.le_refl _) _
 have bs0 : Blk (w.alloc (.cells #[.int .i64 s0.z, .int .i64 s0.zb, .int .i64 s0.b, .int .i64 s0.r] 23)) w.heap.size (shC s0) 23 := Blk.new' rfl rfl
 obtain ⟨hv, hHv⟩ : ∃ b, b = @decide (HvO s0 x1) (Classical.propDecidable _) := ⟨_, rfl⟩
 have HHv : Hid (Calls Tryz.prog 9 #[.agg #[.int .i64 s0.z, .int .i64 s0.zb, .int .i64 s0.b, .int .i64 s0.r], .slice a1 n1 c1] (w.alloc (.cells #[.int .i64 s0.z, .int .i64 s0.zb, .int .i64 s0.b, .int .i64 s0.r] 23)) fun e w' => e = .returned (.int .i64 (trB hv)) ∧ Below w.heap.size w w' ∧ Blk w' w.heap.size (shC s0) 23) := by
  rw [hHv]
  refine (Heavy_of s0 a1 n1 c1 x1 _ (hpr.below hb0)).mono ?_
  rintro e w' ⟨rfl, hb⟩
  exact ⟨rfl, hb0.trans (hb.mono hb0.size), bs0.below hb bs0.lt⟩
 have HO : Hid (∀ o ∈ x1, Fits8 o.k ∧ F64 o.z) := hof
 have HH : Hid (hv = @decide (HvO s0 x1) (Classical.propDecidable _) ∧ OdsR w a1 n1 x1 ∧ ShF s0) := ⟨hHv, hpr, w0⟩
 have HKn : Hid (∀ V, Below w.heap.size w V → Blk V w.heap.size (shC s0) 23 → Calls Tryz.prog 10 #[] V fun e w' => e = .returned (.bool true) ∧ Below w.heap.size w w' ∧ Blk w' w.heap.size (shC s0) 23) := fun V hb hs => by
  refine (clknown_any V).mono ?_
  rintro e w' ⟨rfl, hb'⟩
  exact ⟨rfl, hb.trans (hb'.mono hb.size), hs.below hb' hs.lt⟩
 have hn1 := hpr.2.1
 clear hHv hpr hb0 bs0 w0 hof
 unfold shL
 cases hv with
 | true =>
  rw [show trB true = 1 from rfl] at HHv
  go_enter Tryz.func6, Tryz.ntmps6
  go_wp2_with (first
   | (go_at_call 9; refine HHv.out.mono ?_; rintro e W1 ⟨rfl, hb1, bs1⟩)
   | (go_at_call 10; refine (HKn.out _ hb1 bs1).mono ?_; rintro e W2 ⟨rfl, hb2, _⟩))
  go_ret
  exact ⟨rfl, hb2⟩
 | false =>
  rw [show trB false = 0 from rfl] at HHv
  have HL : Hid (SmallS s0 ∧ n1 ≤ 40 ∧ (∀ o ∈ x1, o.l.length ≤ 30 ∧ ∀ p ∈ o.l, p.d.length ≤ 200)) := by
   have hn := light_ops (fun h => by have e := HH.out.1; rw [@decide_eq_true _ (Classical.propDecidable _) h] at e; cases e)
   have hlen := HH.out.2.1.1
   exact ⟨hn.1, by rw [← hlen]; exact hn.2.1, hn.2.2⟩
  by_cases hr : RightS s0
  ·have HB2 : Hid (∀ V, Below w.heap.size w V → Calls Tryz.prog 11 #[.agg #[.int .i64 s0.z, .int .i64 s0.zb, .int .i64 s0.b, .int .i64 s0.r], .slice a1 n1 c1] V fun e w' => ∃ rs st k, e = .returned (.tuple #[.pointer (some ⟨k.ps, 0, none⟩), .pointer (some ⟨rs, 0, none⟩)]) ∧ Ky V k st 1200 w' ∧ Inv2 st ∧ st.s = s0 ∧ 0 ≤ st.q ∧ st.q ≤ 1200) := fun V hb => both_ky s0 a1 n1 c1 x1 w V HH.out.2.2 HH.out.2.1 HO.out HL.out.2 hb hr
   have HSm : Hid (Sml s0) := ⟨HL.out.1.1, HL.out.1.2.1⟩
   clear hr
   go_enter Tryz.func6, Tryz.ntmps6
   go_wp2_with (first
    | (go_at_call 9; refine HHv.out.mono ?_; rintro e W1 ⟨rfl, hb1, bs1⟩)
    | (go_at_call 10; refine (HKn.out _ hb1 bs1).mono ?_; rintro e W2 ⟨rfl, hb2, bs2⟩; have sh0 : W2.cell? ⟨w.heap.size, 0, none⟩ = some (.int .i64 s0.z) := bs2.cell 0; have sh1 : W2.cell? ⟨w.heap.size, 1, none⟩ = some (.int .i64 s0.zb) := bs2.cell 1; have sh2 : W2.cell? ⟨w.heap.size, 2, none⟩ = some (.int .i64 s0.b) := bs2.cell 2; have sh3 : W2.cell? ⟨w.heap.size, 3, none⟩ = some (.int .i64 s0.r) := bs2.cell 3)
    | (go_at_call 11; refine (HB2.out _ hb2).mono ?_; rintro e W3 ⟨rs, st, k, rfl, hk3, hi3, hs3, hq3⟩; have H3 : Hid (Inv2 st ∧ st.s = s0 ∧ Sml st.s ∧ (0 ≤ st.q ∧ st.q ≤ 1200) ∧ Below w.heap.size w W2 ∧ Blk W2 w.heap.size (shC s0) 23 ∧ Ky W2 k st 1200 W3) := ⟨hi3, hs3, by { rw [hs3]; exact HSm.out }, hq3, hb2, bs2, hk3⟩; clear hk3 hi3 hs3 hq3 sh0 sh1 sh2 sh3 bs2 bs1 hb1 hb2 HB2 HHv HKn))
   obtain ⟨z, hz⟩ : ∃ z, z = pickM st := ⟨_, rfl⟩
   have HZe : Hid (z = pickM st) := hz
   have HP : Hid (Calls Tryz.prog 12 #[.pointer (some ⟨k.ps, 0, none⟩)] W3 fun e w' => e = .returned (.int .i64 z) ∧ Ky W2 k st 1200 w') := by rw [hz]; exact H3.out.2.2.2.2.2.2.pick H3.out.1 H3.out.2.2.1 (by omega)
   clear hz
   have HBw : Hid (∀ V c' st', Ky W2 k st' c' V → Below w.heap.size w V) := fun V c' st' h => by
    have hb := H3.out.2.2.2.2.1
    exact hb.trans (h.bel.mono hb.size)
   by_cases hz0 : z < 0
   ·have HSt : Hid (∀ V, Ky W2 k st 1200 V → Calls Tryz.prog 14 #[.pointer (some ⟨k.ps, 0, none⟩)] V fun e w' => e = .returned (.bool false) ∧ Below w.heap.size w w') := fun V hk => by
     refine (hk.step H3.out.1 H3.out.2.2.1 (by omega)).mono ?_
     rintro e w' ⟨rfl, hk7, _⟩
     exact ⟨by rw [(pick_down (by rw [← HZe.out]; exact hz0)).2], HBw.out _ _ _ hk7⟩
    go_wp2_with (first
     | (go_at_call 12; refine HP.out.mono ?_; rintro e W4 ⟨rfl, hk4⟩)
     | (go_at_call 14; refine (HSt.out _ hk4).mono ?_; rintro e W5 ⟨rfl, hb5⟩))
    go_ret
    exact ⟨rfl, hb5⟩
   ·have HSt3 : Hid (∀ V, Ky W2 k st 1200 V → Calls Tryz.prog 24 #[.pointer (some ⟨k.pg, 0, none⟩), .int .i64 z] V fun e w' => e = .returned (.int .u8 3) ∧ w' = V) := fun V hk => by
     have h3 := pick_full H3.out.1 (by rw [← HZe.out]; omega)
     rw [← HZe.out] at h3
     have := hk.state z
     rw [h3] at this
     exact this
    cases hB : (stepM st).1 with
    | false =>
     have HSt : Hid (∀ V, Ky W2 k st 1200 V → Calls Tryz.prog 14 #[.pointer (some ⟨k.ps, 0, none⟩)] V fun e w' => e = .returned (.bool false) ∧ Below w.heap.size w w') := fun V hk => by
      refine (hk.step H3.out.1 H3.out.2.2.1 (by omega)).mono ?_
      rintro e w' ⟨rfl, hk7, _⟩
      exact ⟨by rw [hB], HBw.out _ _ _ hk7⟩
     clear hB
     go_wp2_with (first
      | (go_at_call 12; refine HP.out.mono ?_; rintro e W4 ⟨rfl, hk4⟩; have HSg := hk4.seg)
      | (go_at_call 23; refine HSg.mono ?_; rintro e W5 ⟨rfl, rfl⟩)
      | (go_at_call 24; refine (HSt3.out _ hk4).mono ?_; rintro e W5 ⟨rfl, rfl⟩)
      | (go_at_call 14; refine (HSt.out _ hk4).mono ?_; rintro e W5 ⟨rfl, hb5⟩))
     go_ret
     exact ⟨rfl, hb5⟩
    | true =>
     have hfr := step_free H3.out.1 hB
     rw [← HZe.out] at hfr
     have hsh : (stepM st).2.s = s0 := by rw [stepM_sh]; exact H3.out.2.1
     have HSt : Hid (∀ V, Ky W2 k st 1200 V → Calls Tryz.prog 14 #[.pointer (some ⟨k.ps, 0, none⟩)] V fun e w' => e = .returned (.bool true) ∧ Ky W2 k (stepM st).2 1216 w' ∧ Inv2 (stepM st).2) := fun V hk => by
      refine (hk.step H3.out.1 H3.out.2.2.1 (by omega)).mono ?_
      rintro e w' ⟨rfl, hk7, h8⟩
      exact ⟨by rw [hB], hk7, h8⟩
     generalize (stepM st).2 = st2 at hfr HSt hsh
     have HF : Hid ((∀ i, ((atZ st2.zs i).1.length : Int) = (atZ st2.zs i).2) ∧ (atZ st2.zs z).1.length = 0 ∧ stZ st2.L z = 1 ∧ liveN st2.S z = 0 ∧ lastI st2.la z = 0 ∧ st2.s = s0) := ⟨hfr.2.1, hfr.2.2.1, hfr.2.2.2.1, live_zero.2 hfr.2.2.2.2.1, hfr.2.2.2.2.2, hsh⟩
     clear hB hfr hsh
     go_wp2_with (first
      | (go_at_call 12; refine HP.out.mono ?_; rintro e W4 ⟨rfl, hk4⟩; have HSg := hk4.seg)
      | (go_at_call 23; refine HSg.mono ?_; rintro e W5 ⟨rfl, rfl⟩)
      | (go_at_call 24; refine (HSt3.out _ hk4).mono ?_; rintro e W5 ⟨rfl, rfl⟩)
      | (go_at_call 14; refine (HSt.out _ hk4).mono ?_; rintro e W7 ⟨rfl, hk7, hi7⟩; have HDv := hk7.dev; have HAt : Hid (Calls Tryz.prog 26 #[.pointer (some ⟨k.pd, 0, none⟩), .int .i64 z] W7 fun e w' => ∃ d, e = .returned (.tuple #[.int .i64 0, .int .i64 d]) ∧ Ky W2 k st2 1216 w') := by { refine (hk7.at z).mono ?_; rintro e w' ⟨rfl, h⟩; exact ⟨_, by { rw [HF.out.2.1]; rfl }, h⟩ })
      | (go_at_call 25; refine HDv.mono ?_; rintro e W8 ⟨rfl, rfl⟩)
      | (go_at_call 26; refine HAt.out.mono ?_; rintro e Z ⟨d, rfl, hkZ⟩))
     have HZ : Hid (Ky W2 k st2 1216 Z ∧ Inv2 st2) := ⟨hkZ, hi7⟩
     clear hkZ hi7 hk7 hk4 HDv HAt HSg HSt HSt3 HP
     obtain ⟨ZN, hZN⟩ : ∃ ZN : Nat, s0.z = ZN := ⟨s0.z.toNat, by have := HZ.out.2.inv.wf.right.1; rw [HF.out.2.2.2.2.2] at this; omega⟩
     have hZ6 : ZN ≤ 12 := by have := HSm.out.1; omega
     have HZN : Hid (s0.z = ZN) := hZN
     clear hZN
     go_loopw [12] (fun x wr => ∃ i : Nat, x = .int .i64 i ∧ i ≤ ZN ∧ Below Z.heap.size Z wr) (fun x _ => ZN - (intOf x).toNat)
     case atStart => exact ⟨0, rfl, Nat.zero_le _, Below.refl _ _⟩
     case round =>
      obtain ⟨i, rfl, hi, bl⟩ := hrel
      have hk := HZ.out.1.under bl
      have bs : Blk wr w.heap.size (shC s0) 23 := H3.out.2.2.2.2.2.1.below hk.bel H3.out.2.2.2.2.2.1.lt
      have sh0 : wr.cell? ⟨w.heap.size, 0, none⟩ = some (.int .i64 ZN) := by rw [← HZN.out]; exact bs.cell 0
      have sh1 : wr.cell? ⟨w.heap.size, 1, none⟩ = some (.int .i64 s0.zb) := bs.cell 1
      have sh2 : wr.cell? ⟨w.heap.size, 2, none⟩ = some (.int .i64 s0.b) := bs.cell 2
      have sh3 : wr.cell? ⟨w.heap.size, 3, none⟩ = some (.int .i64 s0.r) := bs.cell 3
      rcases Nat.lt_or_ge i ZN with hlt | hge
      ·have hi' : (i : Int) < ZN := by omega
       have hwi : IntKind.i64.wrap ((i : Int) + 1) = (i : Int) + 1 := by rw [IntKind.wrap_i64]; omega
       have HDv : Hid (Calls Tryz.prog 25 #[.pointer (some ⟨k.ps, 0, none⟩)] wr fun e w' => e = .returned (.pointer (some ⟨k.pd, 0, none⟩)) ∧ wr = w') := hk.dev.mono (fun e w' hh => ⟨hh.1, hh.2.symm⟩)
       have HAt : Hid (Calls Tryz.prog 26 #[.pointer (some ⟨k.pd, 0, none⟩), .int .i64 (i : Nat)] wr fun e w' => ∃ d : Int, e = .returned (.tuple #[.int .i64 d, .int .i64 d]) ∧ Below Z.heap.size Z w') := by
        have hb2 := bl
        obtain ⟨D, h1, _⟩ := hk
        refine (at_of (i : Nat) h1.dv).mono ?_
        rintro e w' ⟨rfl, hb⟩
        have e := HF.out.1 (i : Nat)
        exact ⟨_, by rw [← e], hb2.trans (hb.mono hb2.size)⟩
       clear hk bs bl
       go_wp2_with (first
        | (go_at_call 25; refine HDv.out.mono ?_; rintro e W8 ⟨rfl, rfl⟩)
        | (go_at_call 26; refine HAt.out.mono ?_; rintro e W9 ⟨d, rfl, hb9⟩))
       exact ⟨⟨i + 1, by simp, by omega, hb9⟩, by simp [intOf]; omega⟩
      ·obtain rfl : i = ZN := by omega
       have HSg : Hid (Calls Tryz.prog 23 #[.pointer (some ⟨k.ps, 0, none⟩)] wr fun e w' => e = .returned (.pointer (some ⟨k.pg, 0, none⟩)) ∧ wr = w') := hk.seg.mono (fun e w' hh => ⟨hh.1, hh.2.symm⟩)
       have HGs : Hid (Calls Tryz.prog 24 #[.pointer (some ⟨k.pg, 0, none⟩), .int .i64 z] wr fun e w' => e = .returned (.int .u8 1) ∧ wr = w') := by
        have := hk.state z
        rw [HF.out.2.2.1] at this
        exact this.mono (fun e w' hh => ⟨hh.1, hh.2.symm⟩)
       have HMp : Hid (Calls Tryz.prog 19 #[.pointer (some ⟨k.ps, 0, none⟩)] wr fun e w' => e = .returned (.pointer (some ⟨k.pm, 0, none⟩)) ∧ wr = w') := hk.map.mono (fun e w' hh => ⟨hh.1, hh.2.symm⟩)
       have HIn : Hid (Calls Tryz.prog 27 #[.pointer (some ⟨k.pm, 0, none⟩), .int .i64 z] wr fun e w' => ∃ a cc, e = .returned (.slice a 0 cc) ∧ Ky W2 k st2 1216 w') := by
        refine (hk.inz z HZ.out.2 (by omega)).mono ?_
        rintro e w' ⟨a, cc, rfl, h1, _⟩
        exact ⟨a, cc, by rw [HF.out.2.2.2.1], h1⟩
       have HLt : Hid (∀ V, Ky W2 k st2 1216 V → Calls Tryz.prog 28 #[.pointer (some ⟨k.ps, 0, none⟩), .int .i64 z] V fun e w' => e = .returned (.int .u64 0) ∧ Below w.heap.size w w') := fun V hkV => by
        refine (hkV.last z).mono ?_
        rintro e w' ⟨rfl, h⟩
        exact ⟨by rw [HF.out.2.2.2.2.1], HBw.out _ _ _ h⟩
       clear hk bs bl
       go_wp2_with (first
        | (go_at_call 23; refine HSg.out.mono ?_; rintro e W8 ⟨rfl, rfl⟩)
        | (go_at_call 24; refine HGs.out.mono ?_; rintro e W8 ⟨rfl, rfl⟩)
        | (go_at_call 19; refine HMp.out.mono ?_; rintro e W8 ⟨rfl, rfl⟩)
        | (go_at_call 27; refine HIn.out.mono ?_; rintro e W9 ⟨a9, c9, rfl, hk9⟩)
        | (go_at_call 28; refine (HLt.out _ hk9).mono ?_; rintro e W10 ⟨rfl, hb10⟩))
       go_ret
       exact ⟨rfl, hb10⟩
  ·have HB2 : Hid (∀ V, Below w.heap.size w V → Calls Tryz.prog 11 #[.agg #[.int .i64 s0.z, .int .i64 s0.zb, .int .i64 s0.b, .int .i64 s0.r], .slice a1 n1 c1] V fun e w' => e = .returned (.tuple #[.pointer none, .pointer none]) ∧ Below w.heap.size w w') := fun V hb => both_nil s0 a1 n1 c1 x1 w V HH.out.2.2 HH.out.2.1 HO.out HL.out.2 hb hr
   clear hr
   go_enter Tryz.func6, Tryz.ntmps6
   go_wp2_with (first
    | (go_at_call 9; refine HHv.out.mono ?_; rintro e W1 ⟨rfl, hb1, bs1⟩)
    | (go_at_call 10; refine (HKn.out _ hb1 bs1).mono ?_; rintro e W2 ⟨rfl, hb2, bs2⟩; have sh0 : W2.cell? ⟨w.heap.size, 0, none⟩ = some (.int .i64 s0.z) := bs2.cell 0; have sh1 : W2.cell? ⟨w.heap.size, 1, none⟩ = some (.int .i64 s0.zb) := bs2.cell 1; have sh2 : W2.cell? ⟨w.heap.size, 2, none⟩ = some (.int .i64 s0.b) := bs2.cell 2; have sh3 : W2.cell? ⟨w.heap.size, 3, none⟩ = some (.int .i64 s0.r) := bs2.cell 3)
    | (go_at_call 11; refine (HB2.out _ hb2).mono ?_; rintro e W3 ⟨rfl, hb3⟩))
   go_ret
   exact ⟨rfl, hb3⟩

set_option maxRecDepth 100000 in
theorem lifted (os : Os) (started : os.Started) (H : Type) (enc : TypeId × Value → H) :
  ReturnsInHanded {} Tryz.checked os 6 .any (Rows.cleanFreesSpec.pre6 enc Tryz.prog Tryz.f6 Rows.cleanFreesRow.domain false) (Rows.cleanFreesSpec.post enc Tryz.prog Tryz.f6 false true false false) := by
 refine returnsInHanded_of_change (C := Tryz.checked) own started (by kernel_rfl) Tryz.func6
  (ChangeSpec.witness6 (enc := enc) (C := Tryz.checked) false ⟨#[], #[.agg #[.int .i64 0, .int .i64 0, .int .i64 0, .int .i64 0], .slice none 0 0], []⟩ 8 (by kernel_rfl) (by kernel_rfl) (by kernel_rfl) (by kernel_rfl)) ?_
 intro W base args ds gs before hval0 hW hcnd _
 have hval : ∀ (j : Nat) t v, Tryz.f6.params[j]? = some t → args[j]? = some v → Value.okWide Tryz.prog W .any base t v := hval0
 have hW' := hW
 obtain ⟨p, q, hA0, hV, rfl, hfz, hnd⟩ := hW
 have hA : DataW.TrodAll enc Tryz.prog W 0 (fun _ => true) true Tryz.f6.params.toList args.toList ds p := hA0
 rw [Tryz.params6] at hA hval
 obtain ⟨v0, vs0, d0, ds0, p0, q0, hargs, rfl, rfl, h0, r0⟩ := trodAll_cons hA
 obtain ⟨v1, vs1, d1, ds1, p1, q1, rfl, rfl, rfl, h1, r1⟩ := trodAll_cons r0
 obtain ⟨rfl, rfl, rfl⟩ := trodAll_nil r1
 obtain rfl : args = #[v0, v1] := by cases args; simp_all
 obtain ⟨rfl, rfl⟩ := trodVars_none hV
 have k0 := h0
 have lt0 : ∀ x ∈ p0, x.block < W.heap.size := by obtain ⟨m, hm⟩ := k0; exact DataW.trod_lt m _ _ _ hm
 obtain ⟨s0, rfl, w0⟩ := open_shape (hval 0 23 v0 rfl rfl) h0
 obtain ⟨a1, n1, c1, rfl⟩ := okWide_slice Tryz.underlying24 (hval 1 24 v1 rfl rfl)
 have k1 := h1
 have lt1 : ∀ x ∈ p1, x.block < W.heap.size := by obtain ⟨m, hm⟩ := k1; exact DataW.trod_lt m _ _ _ hm
 obtain ⟨x1, w1⟩ := open_sops h1
 clear hA0 hval0
 refine (walk s0 a1 n1 c1 x1 W w0 w1).mono fun e W' ⟨he, bel⟩ => ?_
 subst he
 exact ⟨_, rfl, _, _, _, [], _, [], hW', trodAll_mk1 (shut_bool Tryz.underlying4 _), (trodAll_cons_mk (Below.trod laidOut (by kernel_rfl) (of_decide_eq_true (by kernel_rfl)) k0 bel lt0) (trodAll_cons_mk (Below.trod laidOut (by kernel_rfl) (of_decide_eq_true (by kernel_rfl)) k1 bel lt1) trodAll_mk0)), rfl, bel.frame _, fun h => by cases h⟩

theorem over : Rows.cleanFreesRow.holds Tryz.pinned (OpenSpec.ofChange Rows.cleanFreesSpec) :=
 OpenClaim.holds_of_wide 6 Tryz.f6 rfl rfl rfl rfl rfl rfl rfl ⟨rfl, rfl, rfl, rfl, rfl⟩ rfl rfl rfl rfl rfl (by kernel_rfl) Tryz.func6 (by kernel_rfl)
  (of_decide_eq_true (by kernel_rfl)) (by unfold Func.isWrapper; first | (rw [if_pos (by decide +kernel)]; kernel_rfl) | (rw [if_neg (by decide +kernel)]; exact ⟨rfl, rfl⟩))
  (fun os started H enc _ => lifted os started H enc)

end Go.Proofs.YtncnkpnfmbgifaaGreat.cleanFrees
namespace Go.Proofs.YtncnkpnfmbgifaaGreat
theorem cleanFrees_holds : Rows.CleanFreesSaid := cleanFrees.over
#print axioms cleanFrees_holds
end Go.Proofs.YtncnkpnfmbgifaaGreat
