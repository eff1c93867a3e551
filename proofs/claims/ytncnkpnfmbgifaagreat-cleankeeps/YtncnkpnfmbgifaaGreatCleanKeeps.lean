/- For every shape, list of calls and number the statement CleanKeeps returns true: cleaning changes nothing of what a store tells: the same blocks are there, with the same data. -/
import Derived.Test.YtncnkpnfmbgifaaGreatRows
import Derived.Test.YtncnkpnfmbgifaaGreatS6
import Derived.Test.YtncnkpnfmbgifaaGreatQ21
import Derived.BigQuiet
import Derived.Lib.QuietBelow
import Derived.Deep.RegionHeld3
import Derived.WalkKit
import Derived.ProofKit
import Derived.OpenShut
import Derived.ShutString
import Derived.ChangeOld
import Derived.Below
namespace Go.Proofs.YtncnkpnfmbgifaaGreat.cleanKeeps
open Go.ChangeShapes Go.WideShapes Go.ChangeAt Go.RowKit
open Go.ChangeMaps (open_string shut_string)
set_option linter.unusedVariables false

theorem own : ownKnob Tryz.prog.godebug = none := by kernel_rfl
theorem laidOut : laidOutB Tryz.prog = true := by kernel_rfl

set_option maxRecDepth 20000 in
set_option maxHeartbeats 8000000 in
theorem walk (s0 : Sh) (a1 : Option Addr) (n1 c1 : Nat) (x1 : List Od) (a2 : Int) (w : World) (w0 : ShF s0) (w1 : OdsR w a1 n1 x1 ∧ n1 ≤ c1 ∧ (a1 = none → n1 = 0 ∧ c1 = 0) ∧ ∀ o ∈ x1, Fits8 o.k ∧ F64 o.z) (w2 : (Lit.int .u8 a2).wf = true) :
  Calls Tryz.prog 5 #[.agg (shL s0).toArray, .slice a1 n1 c1, .int .u8 a2] w fun e w' => e = .returned (.bool true) ∧ Below w.heap.size w w' := by
 obtain ⟨hpr, hnc, hnil, hof⟩ := w1
 obtain ⟨A, rfl⟩ : ∃ A : Nat, a2 = A := ⟨a2.toNat, by have := bounds_u8 w2; omega⟩
 have hb0 : Below w.heap.size w (w.alloc (.cells #[.int .i64 s0.z, .int .i64 s0.zb, .int .i64 s0.b, .int .i64 s0.r] 23)) := (Below.refl _ _).alloc (Nat.le_refl _) _
 have bs0 : Blk (w.alloc (.cells #[.int .i64 s0.z, .int .i64 s0.zb, .int .i64 s0.b, .int .i64 s0.r] 23)) w.heap.size (shC s0) 23 := Blk.new' rfl rfl
 obtain ⟨hv, hHv⟩ : ∃ b, b = @decide (HvO s0 x1) (Classical.propDecidable _) := ⟨_, rfl⟩
 have HHv : Hid (Calls Tryz.prog 9 #[.agg #[.int .i64 s0.z, .int .i64 s0.zb, .int .i64 s0.b, .int .i64 s0.r], .slice a1 n1 c1] (w.alloc (.cells #[.int .i64 s0.z, .int .i64 s0.zb, .int .i64 s0.b, .int .i64 s0.r] 23)) fun e w' => e = .returned (.int .i64 (trB hv)) ∧ Below w.heap.size w w' ∧ Blk w' w.heap.size (shC s0) 23) := by
  rw [hHv]
  refine (Heavy_of s0 a1 n1 c1 x1 _ (hpr.below hb0)).mono ?_
  rintro e w' ⟨rfl, hb⟩
  exact ⟨rfl, hb0.trans (hb.mono hb0.size), bs0.below hb bs0.lt⟩
 have HO : Hid (∀ o ∈ x1, Fits8 o.k ∧ F64 o.z) := hof
 have HH : Hid (hv = @decide (HvO s0 x1) (Classical.propDecidable _) ∧ OdsR w a1 n1 x1 ∧ ShF s0) := ⟨hHv, hpr, w0⟩
 have HKn : Hid (∀ V, Below w.heap.size w V → Blk V w.heap.size (shC s0) 23 → Calls Tryz.prog 10 #[] V fun e w' => e = .returned (.bool true) ∧ Below w.heap.size w w' ∧ Blk w' w.heap.size (shC s0) 23) := fun V hb hs => by
  refine (clknown_any V).mono ?_
  rintro e w' ⟨rfl, hb'⟩
  exact ⟨rfl, hb.trans (hb'.mono hb.size), hs.below hb' hs.lt⟩
 have hn1 := hpr.2.1
 clear hHv hpr hb0 bs0 w0 hof
 unfold shL
 cases hv with
 | true =>
  rw [show trB true = 1 from rfl] at HHv
  go_enter Tryz.func5, Tryz.ntmps5
  go_wp2_with (first
   | (go_at_call 9; refine HHv.out.mono ?_; rintro e W1 ⟨rfl, hb1, bs1⟩)
   | (go_at_call 10; refine (HKn.out _ hb1 bs1).mono ?_; rintro e W2 ⟨rfl, hb2, _⟩))
  go_ret
  exact ⟨rfl, hb2⟩
 | false =>
  rw [show trB false = 0 from rfl] at HHv
  have HL : Hid (SmallS s0 ∧ n1 ≤ 40 ∧ (∀ o ∈ x1, o.l.length ≤ 30 ∧ ∀ p ∈ o.l, p.d.length ≤ 200)) := by
   have hn := light_ops (fun h => by have e := HH.out.1; rw [@decide_eq_true _ (Classical.propDecidable _) h] at e; cases e)
   have hlen := HH.out.2.1.1
   exact ⟨hn.1, by rw [← hlen]; exact hn.2.1, hn.2.2⟩
  have HBt : Hid (∀ V, Below w.heap.size w V → Calls Tryz.prog 11 #[.agg #[.int .i64 s0.z, .int .i64 s0.zb, .int .i64 s0.b, .int .i64 s0.r], .slice a1 n1 c1] V fun e w' => Below w.heap.size w w' ∧ ((¬ RightS s0 ∧ e = .returned (.tuple #[.pointer none, .pointer none])) ∨ (RightS s0 ∧ ∃ rs st D k, e = .returned (.tuple #[.pointer (some ⟨k.ps, 0, none⟩), .pointer (some ⟨rs, 0, none⟩)]) ∧ StV D w' k st 1200 ∧ (∀ x, StO D k x → w.heap.size ≤ x) ∧ Inv2 st ∧ st.s = s0))) := fun V hb => by
   refine (both_of s0 a1 n1 c1 x1 w V HH.out.2.2 HH.out.2.1 HO.out HL.out.2 hb).mono ?_
   rintro e w' ⟨b1, ⟨hr, rfl⟩ | ⟨hr, ps, rs, st, rfl, hbo, h2, h3, _⟩⟩
   ·exact ⟨b1, .inl ⟨hr, rfl⟩⟩
   ·obtain ⟨D, k, rfl, hv, hx, _⟩ := bo_st hbo
    exact ⟨b1, .inr ⟨hr, rs, st, D, k, rfl, hv.mono (by have := HL.out.2.1; omega), hx, h2, h3⟩⟩
  by_cases hr : RightS s0
  ·have HB2 : Hid (∀ V, Below w.heap.size w V → Calls Tryz.prog 11 #[.agg #[.int .i64 s0.z, .int .i64 s0.zb, .int .i64 s0.b, .int .i64 s0.r], .slice a1 n1 c1] V fun e w' => ∃ rs st D k, e = .returned (.tuple #[.pointer (some ⟨k.ps, 0, none⟩), .pointer (some ⟨rs, 0, none⟩)]) ∧ Below w.heap.size w w' ∧ StV D w' k st 1200 ∧ (∀ x, StO D k x → w.heap.size ≤ x) ∧ Inv2 st ∧ st.s = s0) := fun V hb => by
    refine (HBt.out V hb).mono ?_
    rintro e w' ⟨b1, ⟨hn, _⟩ | ⟨_, rs, st, D, k, rfl, h1, h2, h3, h4⟩⟩
    ·exact (hn hr).elim
    ·exact ⟨rs, st, D, k, rfl, b1, h1, h2, h3, h4⟩
   have HSm : Hid (Sml s0) := ⟨HL.out.1.1, HL.out.1.2.1⟩
   clear hr HBt
   go_enter Tryz.func5, Tryz.ntmps5
   go_wp2_with (first
    | (go_at_call 9; refine HHv.out.mono ?_; rintro e W1 ⟨rfl, hb1, bs1⟩)
    | (go_at_call 10; refine (HKn.out _ hb1 bs1).mono ?_; rintro e W2 ⟨rfl, hb2, bs2⟩; have sh0 : W2.cell? ⟨w.heap.size, 0, none⟩ = some (.int .i64 s0.z) := bs2.cell 0; have sh1 : W2.cell? ⟨w.heap.size, 1, none⟩ = some (.int .i64 s0.zb) := bs2.cell 1; have sh2 : W2.cell? ⟨w.heap.size, 2, none⟩ = some (.int .i64 s0.b) := bs2.cell 2; have sh3 : W2.cell? ⟨w.heap.size, 3, none⟩ = some (.int .i64 s0.r) := bs2.cell 3)
    | (go_at_call 11; refine (HB2.out _ hb2).mono ?_; rintro e W3 ⟨rs, st, D, k, rfl, hb3, hv3, hx3, hi3, hs3⟩; obtain ⟨N, hN⟩ : ∃ N, N = st.S.length := ⟨_, rfl⟩; have HSM := smap_of hv3; have HMa : Hid (Calls Tryz.prog 20 #[.pointer (some ⟨k.pm, 0, none⟩)] W3 fun e w' => ∃ a cc, e = .returned (.slice a N cc) ∧ PlIn w' a st.S.length st.S ∧ (∀ g, a = some ⟨g, 0, none⟩ → 0 < st.S.length → W3.heap.size ≤ g) ∧ Below W3.heap.size W3 w') := by { rw [hN]; exact mall_st hv3 (by omega) }; have H3 : Hid (StV D W3 k st 1200 ∧ (∀ x, StO D k x → w.heap.size ≤ x) ∧ Inv2 st ∧ st.s = s0 ∧ Below w.heap.size w W3 ∧ N = st.S.length) := ⟨hv3, hx3, hi3, hs3, hb3, hN⟩; clear hv3 hx3 hi3 hs3 hb3 hN sh0 sh1 sh2 sh3 bs2 bs1 hb1 hb2)
    | (go_at_call 19; refine HSM.mono ?_; rintro e W4 ⟨rfl, rfl⟩)
    | (go_at_call 20; refine HMa.out.mono ?_; rintro e Z ⟨a, cc, rfl, hp1, hp2, hp3⟩))
   have HZ : Hid (PlIn Z a st.S.length st.S ∧ (∀ g, a = some ⟨g, 0, none⟩ → 0 < st.S.length → W4.heap.size ≤ g) ∧ Below W4.heap.size W4 Z) := ⟨hp1, hp2, hp3⟩
   have HN : Hid (N ≤ 10000) := by
    have := size_S H3.out.2.2.1.inv (by rw [H3.out.2.2.2.1]; exact HSm.out)
    have := H3.out.2.2.2.2.2
    show N ≤ 10000
    omega
   clear hp1 hp2 hp3 HSM HMa HB2 HHv HKn
   go_loopw [10, 11] (fun v x wr => ∃ (i : Nat) (av : Option Addr) (cv : Nat), x = .int .i64 i ∧ i ≤ N ∧ v = .slice av i cv ∧ RowAt (fun j => Z.heap.size ≤ j) wr (.slice av i cv) (kds (memT st) (st.S.take i)) ∧ Below Z.heap.size Z wr) (fun _ x _ => N - (intOf x).toNat)
   case atStart => exact ⟨0, none, 0, rfl, Nat.zero_le _, rfl, by simpa [kds] using RowAt.nil _ Z, Below.refl _ _⟩
   case round =>
    obtain ⟨i, av, cv, rfl, hi, rfl, row, bl⟩ := hrel
    have hN10 : N ≤ 10000 := HN.out
    rcases Nat.lt_or_ge i N with hlt | hge
    ·have hi' : (i : Int) < N := by omega
     have hwi : IntKind.i64.wrap ((i : Int) + 1) = (i : Int) + 1 := by rw [IntKind.wrap_i64]; omega
     obtain ⟨x, g, hx, rfl, t0, t1, _, _⟩ := (HZ.out.1.below bl).at (i := i) (by have := H3.out.2.2.2.2.2; omega)
     have hZ3 := HZ.out.2.2
     have htl : (kds (memT st) (st.S.take i)).length = i := by unfold kds; rw [List.length_map, List.length_take]; have := H3.out.2.2.2.2.2; omega
     have HG : Hid (∀ Y, Below wr.heap.size wr Y → Calls Tryz.prog 21 #[.pointer (some ⟨k.ps, 0, none⟩), .int .u32 x.1.1, .int .u64 x.1.2] Y fun e X => ∃ ax nx cx bx, e = .returned (.tuple #[.slice ax nx cx, .bool bx]) ∧ (∃ a9 c9 w9, (Builtin.append_ #[42, 42] 42 #[.slice av i cv, .slice (some ⟨X.heap.size, 0, none⟩) 1 1]).run Tryz.prog (X.alloc (.cells #[.slice ax nx cx] 43)) = .ok (.slice a9 (i + 1) c9) w9 ∧ RowAt (fun j => Z.heap.size ≤ j) w9 (.slice a9 (i + 1) c9) (kds (memT st) (st.S.take (i + 1))) ∧ Below Z.heap.size Z w9) ∧ X.cell? ⟨g, i * 4, none⟩ = some (.int .u32 x.1.1) ∧ X.cell? ⟨g, i * 4 + 1, none⟩ = some (.int .u64 x.1.2)) := fun Y hY => by
      have hqY : Below Z.heap.size Z Y := bl.trans (hY.mono bl.size)
      have hqw := hqY.size
      have rowY := row.out (below_out Non hY) (fun _ _ => id) (fun _ _ _ _ => id)
      have hvY := (H3.out.1.under hZ3).under hqY
      refine (sget_st hvY x.1 (H3.out.1.mp.good.fits x (List.mem_of_getElem? hx)).1 H3.out.2.2.1.inv.plc).mono ?_
      rintro e X ⟨ax, cx, rfl, hbk, hb⟩
      have row' := rowY.out (below_out Non hb) (fun _ _ => id) (fun _ _ _ _ => id)
      obtain ⟨a9, c9, w9, e9, r9, g9, _⟩ := app_row row' (hbk.mono (O' := fun j => Z.heap.size ≤ j) (fun c hc _ => Nat.le_trans hqw hc)) rfl (by rw [htl]; omega) (fun j hj => Nat.le_trans hqw (Nat.le_trans hb.size hj))
      rw [htl] at e9 r9
      have bX : Below Z.heap.size Z X := hqY.trans (hb.mono hqw)
      have hX := hY.trans (hb.mono hY.size)
      refine ⟨ax, _, cx, _, rfl, ⟨a9, c9, w9, e9, ?_, ?_⟩, (hX.cell (old_block t0)).trans t0, (hX.cell (old_block t1)).trans t1⟩
      ·have e : kds (memT st) (st.S.take (i + 1)) = kds (memT st) (st.S.take i) ++ [(memT st x.1).getD []] := by unfold kds; rw [take_snoc hx, List.map_append]; rfl
       rw [e]; exact r9
      ·obtain ⟨vs, r1, r2, _⟩ := row'
       exact (bX.alloc (by have := hb.size; omega) _).grown g9 (by simp; have := hb.size; omega) (fun j hj => r2 j hj)
     clear row bl hx htl hZ3
     go_wp2_with fail
     go_region_held3 (fun Y => Y.cell? ⟨g, i * 4, none⟩ = some (.int .u32 x.1.1) ∧ Y.cell? ⟨g, i * 4 + 1, none⟩ = some (.int .u64 x.1.2)) (first | exact ⟨t0, t1⟩ | exact d1)
      (first | (go_simp; go_at_call 21; refine (HG.out _ (Below.refl _ _).drew).mono ?_; rintro e X ⟨ax, nx, cx, bx, rfl, b1, d1⟩))
     obtain ⟨a9, c9, w9, e9, r9, b9⟩ := b1
     clear d1 HG t0 t1
     go_wp2_with (at_builtin; refine wpList_append_run rfl _ _ 42 42 rfl _ _ rfl rfl _ _ e9 ?_)
     have H9 : Hid (RowAt (fun j => Z.heap.size ≤ j) w9 (.slice a9 (i + 1) c9) (kds (memT st) (st.S.take (i + 1))) ∧ Below Z.heap.size Z w9) := ⟨r9, b9⟩
     clear e9 r9 b9
     go_roundw
     case rel => exact ⟨i + 1, a9, c9, by simp, by omega, by simp, H9.out.1, H9.out.2⟩
     case measure => simp [intOf]; omega
    ·obtain rfl : i = N := by omega
     have hNS := H3.out.2.2.2.2.2
     rw [List.take_of_length_le (Nat.le_of_eq hNS.symm)] at row
     have HK : Hid (Kpt W4.heap.size wr a st.S av cv (memT st) ∧ Below W4.heap.size W4 wr) := by
      have hz := HZ.out.2.2
      refine ⟨⟨HZ.out.1.below bl, HZ.out.2.1, ?_⟩, hz.trans (bl.mono hz.size)⟩
      rw [← hNS]
      exact row.mono (fun c hc _ => Nat.le_trans hz.size hc)
     have HS0 : Hid (Sv D wr k st 1200 wr ∧ Inv2 st ∧ st.s = s0) := ⟨Sv.start (H3.out.1.under HK.out.2), H3.out.2.2.1, H3.out.2.2.2.1⟩
     clear row bl hNS
     obtain ⟨V0, hV0⟩ : ∃ V0, V0 = wr := ⟨_, rfl⟩
     subst hV0
     go_wp2_with fail
     go_loopw [14] (fun x wr => ∃ (j : Nat) (st' : St), x = .int .i64 j ∧ j ≤ 6 ∧ Sv D V0 k st' (1200 + 16 * j) wr ∧ Inv2 st' ∧ st'.s = s0 ∧ memT st' = memT st) (fun x _ => 6 - (intOf x).toNat)
     case atStart => exact ⟨0, st, rfl, by omega, HS0.out.1, HS0.out.2.1, HS0.out.2.2, rfl⟩
     case round =>
      obtain ⟨j, st', rfl, hj, sv, hin, hss, hme⟩ := hrel
      have hA6 : A % 6 < 6 := Nat.mod_lt _ (by omega)
      have hwA : IntKind.i64.wrap (A : Int) = A := by have := bounds_u8 w2; rw [IntKind.wrap_i64]; omega
      have hwA2 : wrap64 (A : Int) = A := by have := bounds_u8 w2; unfold wrap64; omega
      rcases Nat.lt_or_ge (A % 6) j with hgt | hle
      ·have hgt' : ¬ (j : Int) ≤ (A : Int) % 6 := by omega
       have hgt2 : ¬ (j : Int) ≤ Int.tmod (A : Int) 6 := by rw [Int.tmod_eq_emod_of_nonneg (by omega)]; exact hgt'
       obtain ⟨D2, hv2, hD2, ho2⟩ := sv
       have hlen : st'.S.map (·.1) = st.S.map (·.1) := names_same HS0.out.2.1.inv.plc hin.inv.plc hme
       have hlenN : st'.S.length = i := by
        have := congrArg List.length hlen
        rw [List.length_map, List.length_map] at this
        have := H3.out.2.2.2.2.2
        omega
       have HMp : Hid (Calls Tryz.prog 19 #[.pointer (some ⟨k.ps, 0, none⟩)] wr fun e w' => e = .returned (.pointer (some ⟨k.pm, 0, none⟩)) ∧ wr = w') := (smap_of hv2).mono (fun e w' hh => ⟨hh.1, hh.2.symm⟩)
       have HMb : Hid (Calls Tryz.prog 20 #[.pointer (some ⟨k.pm, 0, none⟩)] wr fun e w' => ∃ a cc, e = .returned (.slice a i cc) ∧ PlIn w' a st'.S.length st'.S ∧ Below wr.heap.size wr w') := by
        refine (mall_st hv2 (by omega)).mono ?_
        rintro e w' ⟨a, cc, rfl, h1, _, h2⟩
        rw [hlenN]
        exact ⟨a, cc, rfl, by rw [← hlenN]; exact h1, h2⟩
       have hlow : ∀ x, StO D k x → x < W4.heap.size := H3.out.1.all
       have H6 : Hid (StV D2 wr k st' (1200 + 16 * j) ∧ Inv2 st' ∧ memT st' = memT st ∧ st'.S.length = i ∧ st'.S.map (·.1) = st.S.map (·.1) ∧ Kpt W4.heap.size wr a st.S av cv (memT st) ∧ Below w.heap.size w wr) := ⟨hv2, hin, hme, hlenN, hlen, HK.out.1.out ho2 hlow, by
        have b1 := H3.out.2.2.2.2.1
        have b2 := b1.trans (HK.out.2.mono b1.size)
        exact b2.trans (ho2.below b2.size (fun x hx => H3.out.2.1 x hx))⟩
       clear hv2 hD2 ho2 hlen hlenN hin hss hme hlow
       go_wp2_with (first
        | (go_at_call 19; refine HMp.out.mono ?_; rintro e W6 ⟨rfl, rfl⟩)
        | (go_at_call 20; refine HMb.out.mono ?_; rintro e Z2 ⟨a2, cc2, rfl, hq1, hq2⟩))
       have HZ2 : Hid (PlIn Z2 a2 st'.S.length st'.S ∧ Kpt W4.heap.size Z2 a st.S av cv (memT st) ∧ StV D2 Z2 k st' (1200 + 16 * j) ∧ Below w.heap.size w Z2) := ⟨hq1, H6.out.2.2.2.2.2.1.below hq2, H6.out.1.under hq2, H6.out.2.2.2.2.2.2.trans (hq2.mono H6.out.2.2.2.2.2.2.size)⟩
       clear hq1 hq2 HMp HMb
       go_loopw [16] (fun x wr => ∃ (m : Nat), x = .int .i64 m ∧ m ≤ i ∧ Below Z2.heap.size Z2 wr) (fun x _ => i - (intOf x).toNat)
       case atStart => exact ⟨0, rfl, Nat.zero_le _, Below.refl _ _⟩
       case round =>
        obtain ⟨m, rfl, hm, bl⟩ := hrel
        have hN10 : i ≤ 10000 := HN.out
        rcases Nat.lt_or_ge m i with hlt | hge
        ·have hm' : (m : Int) < i := by omega
         have hwm : IntKind.i64.wrap ((m : Int) + 1) = (m : Int) + 1 := by rw [IntKind.wrap_i64]; omega
         have hiN := H3.out.2.2.2.2.2
         obtain ⟨y, g2, hy, rfl, q0, q1, _, _⟩ := (HZ2.out.1.below bl).at (i := m) (by rw [H6.out.2.2.2.1]; exact hlt)
         obtain ⟨x, g, b, off, A1, L1, C1, hx, rfl, rfl, hbd, t0, t1, t2⟩ := (HZ2.out.2.1.below bl).at (kds_short H3.out.2.2.1.inv st.S) (i := m) (by omega)
         have hxy : y.1 = x.1 := by
          have e := congrArg (fun l => l[m]?) H6.out.2.2.2.2.1
          simp only [List.getElem?_map, hx, hy, Option.map_some, Option.some.injEq] at e
          exact e
         rw [hxy] at q0 q1
         obtain ⟨E, hE, _⟩ := mem_in H3.out.2.2.1.inv.plc (List.mem_of_getElem? hx)
         rw [hE] at hbd
         have HC : Hid (∀ Y, Below wr.heap.size wr Y → (Y.cell? ⟨g2, m * 4, none⟩ = some (.int .u32 x.1.1) ∧ Y.cell? ⟨g2, m * 4 + 1, none⟩ = some (.int .u64 x.1.2) ∧ Y.cell? ⟨g, m * 4, none⟩ = some (.int .u32 x.1.1) ∧ Y.cell? ⟨g, m * 4 + 1, none⟩ = some (.int .u64 x.1.2) ∧ Y.cell? ⟨b, off + m, none⟩ = some (.slice A1 L1 C1)) ∧ BIn Y A1 L1 E) := fun Y hY => ⟨⟨(hY.cell (old_block q0)).trans q0, (hY.cell (old_block q1)).trans q1, (hY.cell (old_block t0)).trans t0, (hY.cell (old_block t1)).trans t1, (hY.cell (old_block t2)).trans t2⟩, hbd.below hY⟩
         have HG : Hid (∀ Y, Below wr.heap.size wr Y → Calls Tryz.prog 21 #[.pointer (some ⟨k.ps, 0, none⟩), .int .u32 x.1.1, .int .u64 x.1.2] Y fun e X => ∃ ax nx cx, e = .returned (.tuple #[.slice ax nx cx, .bool true]) ∧ (BIn X ax nx E ∧ BIn X A1 L1 E ∧ Below Z2.heap.size Z2 X) ∧ X.cell? ⟨g2, m * 4, none⟩ = some (.int .u32 x.1.1) ∧ X.cell? ⟨g2, m * 4 + 1, none⟩ = some (.int .u64 x.1.2) ∧ X.cell? ⟨g, m * 4, none⟩ = some (.int .u32 x.1.1) ∧ X.cell? ⟨g, m * 4 + 1, none⟩ = some (.int .u64 x.1.2) ∧ X.cell? ⟨b, off + m, none⟩ = some (.slice A1 L1 C1)) := fun Y hY => by
          have hqY : Below Z2.heap.size Z2 Y := bl.trans (hY.mono bl.size)
          have hfx : FitsN x.1 := (H3.out.1.mp.good.fits x (List.mem_of_getElem? hx)).1
          have hg := sget_st (HZ2.out.2.2.1.under hqY) x.1 hfx H6.out.2.1.inv.plc
          rw [H6.out.2.2.1, hE] at hg
          refine hg.mono ?_
          rintro e X ⟨ax, cx, rfl, hbk, hb⟩
          have hX := hY.trans (hb.mono hY.size)
          exact ⟨ax, _, cx, rfl, ⟨hbk.bin.1, (HC.out X hX).2, hqY.trans (hb.mono hqY.size)⟩, (HC.out X hX).1⟩
         clear hx hy hxy hE hbd hiN bl
         go_wp2_with fail
         go_region_held3 (fun Y => Y.cell? ⟨g2, m * 4, none⟩ = some (.int .u32 x.1.1) ∧ Y.cell? ⟨g2, m * 4 + 1, none⟩ = some (.int .u64 x.1.2) ∧ Y.cell? ⟨g, m * 4, none⟩ = some (.int .u32 x.1.1) ∧ Y.cell? ⟨g, m * 4 + 1, none⟩ = some (.int .u64 x.1.2) ∧ Y.cell? ⟨b, off + m, none⟩ = some (.slice A1 L1 C1)) (first | exact ⟨q0, q1, t0, t1, t2⟩ | exact d1)
          (first | (go_simp; go_at_call 21; refine (HG.out _ (Below.refl _ _).drew).mono ?_; rintro e Y1 ⟨ga, gl, gc, rfl, b1, d1⟩))
         obtain ⟨y0, y1, z0, z1, z2⟩ := d1
         have HSb : Hid (Calls Tryz.prog 22 #[.slice ga gl gc, .slice A1 L1 C1] Y1.drew fun e w' => e = .returned (.bool true) ∧ w' = Y1.drew) := sameBytes_of ga gl gc E A1 L1 C1 Y1.drew (b1.1.below (Below.refl _ _).drew) (b1.2.1.below (Below.refl _ _).drew)
         have HB3 : Hid (Below Z2.heap.size Z2 Y1.drew) := b1.2.2.drew
         clear b1 q0 q1 t0 t1 t2 HG HC
         go_wp2_with fail
         go_region_held3 (fun Y => Y.cell? ⟨g2, m * 4, none⟩ = some (.int .u32 x.1.1) ∧ Y.cell? ⟨g2, m * 4 + 1, none⟩ = some (.int .u64 x.1.2) ∧ Y.cell? ⟨g, m * 4, none⟩ = some (.int .u32 x.1.1) ∧ Y.cell? ⟨g, m * 4 + 1, none⟩ = some (.int .u64 x.1.2) ∧ Y.cell? ⟨b, off + m, none⟩ = some (.slice A1 L1 C1)) (first | exact ⟨y0, y1, z0, z1, z2⟩)
          (first | (go_simp; go_at_call 22; refine HSb.out.mono ?_; rintro e Y3 ⟨rfl, rfl⟩))
         try go_wp2
         exact ⟨⟨m + 1, by simp, by omega, HB3.out⟩, by simp [intOf]; omega⟩
        ·obtain rfl : m = i := by omega
         have HF : Hid (Below w.heap.size w wr) := HZ2.out.2.2.2.trans (bl.mono HZ2.out.2.2.2.size)
         clear bl
         go_wp2
         go_ret
         exact ⟨rfl, HF.out⟩
      ·have hle' : (j : Int) ≤ (A : Int) % 6 := by omega
       have hle2 : (j : Int) ≤ Int.tmod (A : Int) 6 := by rw [Int.tmod_eq_emod_of_nonneg (by omega)]; exact hle'
       have hwj : IntKind.i64.wrap ((j : Int) + 1) = (j : Int) + 1 := by rw [IntKind.wrap_i64]; omega
       have HSt : Hid (Calls Tryz.prog 14 #[.pointer (some ⟨k.ps, 0, none⟩)] wr fun e w' => (∃ b, e = .returned (.bool b)) ∧ Sv D V0 k (stepM st').2 (1200 + 16 * (j + 1)) w' ∧ Inv2 (stepM st').2 ∧ (stepM st').2.s = s0 ∧ memT (stepM st').2 = memT st) := by
        refine (cstep_sv sv hin (by rw [hss]; exact HSm.out) (by omega)).mono ?_
        rintro e w' ⟨h1, h2, h3, h4⟩
        exact ⟨h1, h2, h3, by rw [stepM_sh]; exact hss, by rw [h4]; exact hme⟩
       generalize (stepM st').2 = st2 at HSt
       clear sv hin hss hme
       go_wp2_with (go_at_call 14; refine HSt.out.mono ?_; rintro e V5 ⟨⟨v5, rfl⟩, h1, h2, h3, h4⟩)
       exact ⟨⟨j + 1, st2, by simp, by omega, h1, h2, h3, h4⟩, by simp [intOf]; omega⟩
  ·have HB2 : Hid (∀ V, Below w.heap.size w V → Calls Tryz.prog 11 #[.agg #[.int .i64 s0.z, .int .i64 s0.zb, .int .i64 s0.b, .int .i64 s0.r], .slice a1 n1 c1] V fun e w' => e = .returned (.tuple #[.pointer none, .pointer none]) ∧ Below w.heap.size w w') := fun V hb => by
    refine (HBt.out V hb).mono ?_
    rintro e w' ⟨b1, ⟨_, rfl⟩ | ⟨hn, _⟩⟩
    ·exact ⟨rfl, b1⟩
    ·exact (hr hn).elim
   clear hr HBt
   go_enter Tryz.func5, Tryz.ntmps5
   go_wp2_with (first
    | (go_at_call 9; refine HHv.out.mono ?_; rintro e W1 ⟨rfl, hb1, bs1⟩)
    | (go_at_call 10; refine (HKn.out _ hb1 bs1).mono ?_; rintro e W2 ⟨rfl, hb2, bs2⟩; have sh0 : W2.cell? ⟨w.heap.size, 0, none⟩ = some (.int .i64 s0.z) := bs2.cell 0; have sh1 : W2.cell? ⟨w.heap.size, 1, none⟩ = some (.int .i64 s0.zb) := bs2.cell 1; have sh2 : W2.cell? ⟨w.heap.size, 2, none⟩ = some (.int .i64 s0.b) := bs2.cell 2; have sh3 : W2.cell? ⟨w.heap.size, 3, none⟩ = some (.int .i64 s0.r) := bs2.cell 3)
    | (go_at_call 11; refine (HB2.out _ hb2).mono ?_; rintro e W3 ⟨rfl, hb3⟩))
   go_ret
   exact ⟨rfl, hb3⟩

set_option maxRecDepth 100000 in
theorem lifted (os : Os) (started : os.Started) (H : Type) (enc : TypeId × Value → H) :
  ReturnsInHanded {} Tryz.checked os 5 .any (Rows.cleanKeepsSpec.pre6 enc Tryz.prog Tryz.f5 Rows.cleanKeepsRow.domain false) (Rows.cleanKeepsSpec.post enc Tryz.prog Tryz.f5 false true false false) := by
 refine returnsInHanded_of_change (C := Tryz.checked) own started (by kernel_rfl) Tryz.func5
  (ChangeSpec.witness6 (enc := enc) (C := Tryz.checked) false ⟨#[], #[.agg #[.int .i64 0, .int .i64 0, .int .i64 0, .int .i64 0], .slice none 0 0, .int .u8 0], []⟩ 8 (by kernel_rfl) (by kernel_rfl) (by kernel_rfl) (by kernel_rfl)) ?_
 intro W base args ds gs before hval0 hW hcnd _
 have hval : ∀ (j : Nat) t v, Tryz.f5.params[j]? = some t → args[j]? = some v → Value.okWide Tryz.prog W .any base t v := hval0
 have hW' := hW
 obtain ⟨p, q, hA0, hV, rfl, hfz, hnd⟩ := hW
 have hA : DataW.TrodAll enc Tryz.prog W 0 (fun _ => true) true Tryz.f5.params.toList args.toList ds p := hA0
 rw [Tryz.params5] at hA hval
 obtain ⟨v0, vs0, d0, ds0, p0, q0, hargs, rfl, rfl, h0, r0⟩ := trodAll_cons hA
 obtain ⟨v1, vs1, d1, ds1, p1, q1, rfl, rfl, rfl, h1, r1⟩ := trodAll_cons r0
 obtain ⟨v2, vs2, d2, ds2, p2, q2, rfl, rfl, rfl, h2, r2⟩ := trodAll_cons r1
 obtain ⟨rfl, rfl, rfl⟩ := trodAll_nil r2
 obtain rfl : args = #[v0, v1, v2] := by cases args; simp_all
 obtain ⟨rfl, rfl⟩ := trodVars_none hV
 have k0 := h0
 have lt0 : ∀ x ∈ p0, x.block < W.heap.size := by obtain ⟨m, hm⟩ := k0; exact DataW.trod_lt m _ _ _ hm
 obtain ⟨s0, rfl, w0⟩ := open_shape (hval 0 23 v0 rfl rfl) h0
 obtain ⟨a1, n1, c1, rfl⟩ := okWide_slice Tryz.underlying24 (hval 1 24 v1 rfl rfl)
 have k1 := h1
 have lt1 : ∀ x ∈ p1, x.block < W.heap.size := by obtain ⟨m, hm⟩ := k1; exact DataW.trod_lt m _ _ _ hm
 obtain ⟨x1, w1⟩ := open_sops h1
 obtain ⟨a2, rfl, rfl, rfl, w2⟩ := open_int Tryz.underlying5 (hval 2 5 v2 rfl rfl) h2
 clear hA0 hval0
 refine (walk s0 a1 n1 c1 x1 a2 W w0 w1 w2).mono fun e W' ⟨he, bel⟩ => ?_
 subst he
 exact ⟨_, rfl, _, _, _, [], _, [], hW', trodAll_mk1 (shut_bool Tryz.underlying4 _), (trodAll_cons_mk (Below.trod laidOut (by kernel_rfl) (of_decide_eq_true (by kernel_rfl)) k0 bel lt0) (trodAll_cons_mk (Below.trod laidOut (by kernel_rfl) (of_decide_eq_true (by kernel_rfl)) k1 bel lt1) (trodAll_cons_mk (shut_int Tryz.underlying5 w2) trodAll_mk0))), rfl, bel.frame _, fun h => by cases h⟩

theorem over : Rows.cleanKeepsRow.holds Tryz.pinned (OpenSpec.ofChange Rows.cleanKeepsSpec) :=
 OpenClaim.holds_of_wide 5 Tryz.f5 rfl rfl rfl rfl rfl rfl rfl ⟨rfl, rfl, rfl, rfl, rfl⟩ rfl rfl rfl rfl rfl (by kernel_rfl) Tryz.func5 (by kernel_rfl)
  (of_decide_eq_true (by kernel_rfl)) (by unfold Func.isWrapper; first | (rw [if_pos (by decide +kernel)]; kernel_rfl) | (rw [if_neg (by decide +kernel)]; exact ⟨rfl, rfl⟩))
  (fun os started H enc _ => lifted os started H enc)

end Go.Proofs.YtncnkpnfmbgifaaGreat.cleanKeeps
namespace Go.Proofs.YtncnkpnfmbgifaaGreat
theorem cleanKeeps_holds : Rows.CleanKeepsSaid := cleanKeeps.over
#print axioms cleanKeeps_holds
end Go.Proofs.YtncnkpnfmbgifaaGreat
