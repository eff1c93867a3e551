/- Texts of this seat, one behind the other: StSa. -/
import Derived.Test.YtncnkpnfmbgifaaGreatQ19
import Derived.Test.YtncnkpnfmbgifaaGreatQ12
import Derived.Test.YtncnkpnfmbgifaaGreatQ4
import Derived.Test.YtncnkpnfmbgifaaGreatP12
import Derived.Lib.QuietBelow
import Derived.BigQuiet
/- What one call of same (do both hold the same?) does. -/
namespace Go.Proofs.YtncnkpnfmbgifaaGreat
open Go.RowKit
set_option linter.unusedVariables false
set_option maxRecDepth 4000
section
variable {B : Nat} {W w : World} {ps rs : Nat} {st : St} {m : Nat}
set_option maxHeartbeats 4000000 in
theorem same_bo (h : Bo B W ps rs st m w) (hm : m ≤ 10000) :
  Calls Tryz.prog 53 #[.pointer (some ⟨ps, 0, none⟩), .pointer (some ⟨rs, 0, none⟩)] w fun e w' => e = .returned (.bool true) ∧ Below w.heap.size w w' := by
 obtain ⟨D, k, D', M', k', rfl, rfl, h3, h4, h5, h6, h7, h8, h9⟩ := h
 have H : Hid (∀ Y, Below w.heap.size w Y → StV D Y k st m ∧ SdV D' M' Y k' st) := fun Y hY => ⟨h3.under hY, h4.under hY⟩
 obtain ⟨Z, hZ⟩ : ∃ Z : Nat, st.s.z = Z := ⟨st.s.z.toNat, by have := h3.wf.right.1; omega⟩
 have hZ1 : Z ≤ 256 := by have := h3.wf.right.2.1; omega
 have HZ : Hid (st.s.z = (Z : Nat)) := hZ
 have HS : Hid (st.S.length ≤ 10000 ∧ m < 100000 ∧ Wf st.s st.zs) := ⟨by omega, by omega, h3.wf⟩
 clear h3 h4 h5 h6 h7 h8 h9 hZ
 have HC : Hid (∀ Y, Below w.heap.size w Y → Y.cell? ⟨k'.ps, 0, none⟩ = some (.pointer (some ⟨k'.pd, 0, none⟩)) ∧ Y.cell? ⟨k'.ps, 1, none⟩ = some (.pointer (some ⟨k'.pg, 0, none⟩)) ∧ Y.cell? ⟨k'.ps, 2, none⟩ = some (.pointer (some ⟨k'.pm, 0, none⟩)) ∧ Y.cell? ⟨k'.ps, 3, none⟩ = some (.int .u64 st.q) ∧ Y.cell? ⟨k'.pd, 0, none⟩ = some (.int .i64 (Z : Nat))) := fun Y hY => by
  obtain ⟨hv, hd⟩ := H.out Y hY
  have e := hd.dcells.1
  rw [HZ.out] at e
  exact ⟨hd.cells.1, hd.cells.2.1, hd.cells.2.2.1, hd.cells.2.2.2.1, e⟩
 have HLa : Hid (∀ (j : Nat) Y, Below w.heap.size w Y → Calls Tryz.prog 28 #[.pointer (some ⟨k.ps, 0, none⟩), .int .i64 (j : Nat)] Y fun e X => e = .returned (.int .u64 (lastI st.la j)) ∧ Below w.heap.size w X ∧ X.cell? ⟨k'.ps, 1, none⟩ = some (.pointer (some ⟨k'.pg, 0, none⟩))) := fun j Y hY => (slast_of (j : Nat) (H.out Y hY).1).mono (fun e X hh => ⟨hh.1, hY.trans (hh.2.mono hY.size), (HC.out X (hY.trans (hh.2.mono hY.size))).2.1⟩)
 have HDLa : Hid (∀ (j : Nat) Y, Below w.heap.size w Y → Calls Tryz.prog 42 #[.pointer (some ⟨k'.ps, 0, none⟩), .int .i64 (j : Nat)] Y fun e X => e = .returned (.int .u64 (lastI st.la j)) ∧ Below w.heap.size w X ∧ X.cell? ⟨k'.ps, 1, none⟩ = some (.pointer (some ⟨k'.pg, 0, none⟩))) := fun j Y hY => (dslast_of (j : Nat) (H.out Y hY).2).mono (fun e X hh => ⟨hh.1, hY.trans (hh.2.mono hY.size), (HC.out X (hY.trans (hh.2.mono hY.size))).2.1⟩)
 have HSg : Hid (∀ Y, Below w.heap.size w Y → Calls Tryz.prog 23 #[.pointer (some ⟨k.ps, 0, none⟩)] Y fun e X => e = .returned (.pointer (some ⟨k.pg, 0, none⟩)) ∧ Below w.heap.size w X ∧ X.cell? ⟨k'.ps, 1, none⟩ = some (.pointer (some ⟨k'.pg, 0, none⟩))) := fun Y hY => (sseg_of (H.out Y hY).1).mono (fun e X hh => ⟨hh.1, by rw [hh.2]; exact hY, by rw [hh.2]; exact (HC.out Y hY).2.1⟩)
 have HGs : Hid (∀ (j : Nat) Y, Below w.heap.size w Y → Calls Tryz.prog 24 #[.pointer (some ⟨k.pg, 0, none⟩), .int .i64 (j : Nat)] Y fun e X => e = .returned (.int .u8 (stZ st.L j)) ∧ Below w.heap.size w X ∧ X.cell? ⟨k'.ps, 1, none⟩ = some (.pointer (some ⟨k'.pg, 0, none⟩))) := fun j Y hY => (gState_of k.pg k.gg st.s.r st.L (j : Nat) Y (H.out Y hY).1.sg).mono (fun e X hh => ⟨hh.1, by rw [hh.2]; exact hY, by rw [hh.2]; exact (HC.out Y hY).2.1⟩)
 have HDGs : Hid (∀ (j : Nat) Y, Below w.heap.size w Y → Calls Tryz.prog 98 #[.pointer (some ⟨k'.pg, 0, none⟩), .int .i64 (j : Nat)] Y fun e X => e = .returned (.int .u8 (stZ st.L j)) ∧ Below w.heap.size w X ∧ X.cell? ⟨k'.ps, 1, none⟩ = some (.pointer (some ⟨k'.pg, 0, none⟩))) := fun j Y hY => (dgState_of k'.pg k'.gg k'.gc st.s st.L (j : Nat) Y (H.out Y hY).2.sg).mono (fun e X hh => ⟨hh.1, by rw [hh.2]; exact hY, by rw [hh.2]; exact (HC.out Y hY).2.1⟩)
 have HT : Hid (∀ X, Below w.heap.size w X → X.cell? ⟨k'.ps, 0, none⟩ = some (.pointer (some ⟨k'.pd, 0, none⟩)) ∧ X.cell? ⟨k'.ps, 2, none⟩ = some (.pointer (some ⟨k'.pm, 0, none⟩)) ∧ X.cell? ⟨k'.ps, 3, none⟩ = some (.int .u64 st.q)) := fun X hX => by obtain ⟨a0, a1, a2, a3, a4⟩ := HC.out X hX; exact ⟨a0, a2, a3⟩
 have HSq : Hid (∀ Y, Below w.heap.size w Y → Calls Tryz.prog 30 #[.pointer (some ⟨k.ps, 0, none⟩)] Y fun e X => e = .returned (.int .u64 st.q) ∧ Below w.heap.size w X ∧ X.cell? ⟨k'.ps, 0, none⟩ = some (.pointer (some ⟨k'.pd, 0, none⟩)) ∧ X.cell? ⟨k'.ps, 2, none⟩ = some (.pointer (some ⟨k'.pm, 0, none⟩)) ∧ X.cell? ⟨k'.ps, 3, none⟩ = some (.int .u64 st.q)) := fun Y hY => (sseq_of (H.out Y hY).1).mono (fun e X hh => ⟨hh.1, by rw [hh.2]; exact hY, by rw [hh.2]; exact HT.out Y hY⟩)
 have HLo : Hid (∀ Y, Below w.heap.size w Y → Calls Tryz.prog 55 #[.pointer (some ⟨k.ps, 0, none⟩)] Y fun e X => e = .returned (.bool (lowB st.L st.s.r)) ∧ Below w.heap.size w X ∧ X.cell? ⟨k'.ps, 0, none⟩ = some (.pointer (some ⟨k'.pd, 0, none⟩)) ∧ X.cell? ⟨k'.ps, 2, none⟩ = some (.pointer (some ⟨k'.pm, 0, none⟩)) ∧ X.cell? ⟨k'.ps, 3, none⟩ = some (.int .u64 st.q)) := fun Y hY => (slow_of (H.out Y hY).1).mono (fun e X hh => ⟨hh.1, hY.trans (hh.2.mono hY.size), HT.out _ (hY.trans (hh.2.mono hY.size))⟩)
 have HDLo : Hid (∀ Y, Below w.heap.size w Y → Calls Tryz.prog 56 #[.pointer (some ⟨k'.ps, 0, none⟩)] Y fun e X => e = .returned (.bool (lowB st.L st.s.r)) ∧ Below w.heap.size w X ∧ X.cell? ⟨k'.ps, 0, none⟩ = some (.pointer (some ⟨k'.pd, 0, none⟩)) ∧ X.cell? ⟨k'.ps, 2, none⟩ = some (.pointer (some ⟨k'.pm, 0, none⟩)) ∧ X.cell? ⟨k'.ps, 3, none⟩ = some (.int .u64 st.q)) := fun Y hY => (dslow_of (H.out Y hY).2).mono (fun e X hh => ⟨hh.1, hY.trans (hh.2.mono hY.size), HT.out _ (hY.trans (hh.2.mono hY.size))⟩)
 have HMp : Hid (∀ Y, Below w.heap.size w Y → Calls Tryz.prog 19 #[.pointer (some ⟨k.ps, 0, none⟩)] Y fun e X => e = .returned (.pointer (some ⟨k.pm, 0, none⟩)) ∧ Below w.heap.size w X ∧ X.cell? ⟨k'.ps, 0, none⟩ = some (.pointer (some ⟨k'.pd, 0, none⟩)) ∧ X.cell? ⟨k'.ps, 2, none⟩ = some (.pointer (some ⟨k'.pm, 0, none⟩)) ∧ X.cell? ⟨k'.ps, 3, none⟩ = some (.int .u64 st.q)) := fun Y hY => (smap_of (H.out Y hY).1).mono (fun e X hh => ⟨hh.1, by rw [hh.2]; exact hY, by rw [hh.2]; exact HT.out Y hY⟩)
 have HDv : Hid (∀ Y, Below w.heap.size w Y → Calls Tryz.prog 25 #[.pointer (some ⟨k.ps, 0, none⟩)] Y fun e X => e = .returned (.pointer (some ⟨k.pd, 0, none⟩)) ∧ Below w.heap.size w X ∧ X.cell? ⟨k'.ps, 0, none⟩ = some (.pointer (some ⟨k'.pd, 0, none⟩)) ∧ X.cell? ⟨k'.ps, 2, none⟩ = some (.pointer (some ⟨k'.pm, 0, none⟩)) ∧ X.cell? ⟨k'.ps, 3, none⟩ = some (.int .u64 st.q)) := fun Y hY => (sdev_of (H.out Y hY).1).mono (fun e X hh => ⟨hh.1, by rw [hh.2]; exact hY, by rw [hh.2]; exact HT.out Y hY⟩)
 have HAl : Hid (∀ Y, Below w.heap.size w Y → Calls Tryz.prog 20 #[.pointer (some ⟨k.pm, 0, none⟩)] Y fun e X => ∃ a cc, e = .returned (.slice a st.S.length cc) ∧ (PlIn X a st.S.length st.S ∧ Below w.heap.size w X) ∧ X.cell? ⟨k'.ps, 0, none⟩ = some (.pointer (some ⟨k'.pd, 0, none⟩)) ∧ X.cell? ⟨k'.ps, 2, none⟩ = some (.pointer (some ⟨k'.pm, 0, none⟩)) ∧ X.cell? ⟨k'.ps, 3, none⟩ = some (.int .u64 st.q)) := fun Y hY => by
  refine (mAll_of k.pm k.b1 k.b2 st.S m Y (H.out Y hY).1.mp HS.out.2.1).mono ?_
  rintro e X ⟨a, n, cc, rfl, ow, hX⟩
  have hb := hY.trans (hX.mono hY.size)
  have hn : st.S.length = n := (own_pl ow).1
  subst hn
  exact ⟨a, cc, rfl, ⟨own_pl ow, hb⟩, HT.out X hb⟩
 have HDAl : Hid (∀ Y a, PlIn Y a st.S.length st.S → Below w.heap.size w Y → Calls Tryz.prog 97 #[.pointer (some ⟨k'.pm, 0, none⟩)] Y fun e X => ∃ b cc, e = .returned (.slice b st.S.length cc) ∧ (PlIn X a st.S.length st.S ∧ PlIn X b st.S.length st.S ∧ Below w.heap.size w X) ∧ X.cell? ⟨k'.ps, 0, none⟩ = some (.pointer (some ⟨k'.pd, 0, none⟩)) ∧ X.cell? ⟨k'.ps, 2, none⟩ = some (.pointer (some ⟨k'.pm, 0, none⟩)) ∧ X.cell? ⟨k'.ps, 3, none⟩ = some (.int .u64 st.q)) := fun Y a ha hY => by
  refine (dmAll_of k'.pm st.S Y (H.out Y hY).2.mp.d HS.out.1).mono ?_
  rintro e X ⟨b, cc, rfl, ow, hX⟩
  have hb := hY.trans (hX.mono hY.size)
  exact ⟨b, cc, rfl, ⟨ha.below hX, ow, hb⟩, HT.out X hb⟩
 have HSp : Hid (∀ Y a b c1 c2, (PlIn Y a st.S.length st.S ∧ PlIn Y b st.S.length st.S ∧ Below w.heap.size w Y) → Calls Tryz.prog 101 #[.slice a st.S.length c1, .slice b st.S.length c2] Y fun e X => e = .returned (.bool true) ∧ Below w.heap.size w X ∧ X.cell? ⟨k'.ps, 0, none⟩ = some (.pointer (some ⟨k'.pd, 0, none⟩)) ∧ X.cell? ⟨k'.ps, 2, none⟩ = some (.pointer (some ⟨k'.pm, 0, none⟩)) ∧ X.cell? ⟨k'.ps, 3, none⟩ = some (.int .u64 st.q)) := fun Y a b c1 c2 hh => (samePlaces_of a b st.S.length c1 c2 st.S Y hh.1 hh.2.1 (by have := HS.out.1; omega)).mono (fun e X h2 => ⟨h2.1, hh.2.2.trans (h2.2.mono hh.2.2.size), HT.out _ (hh.2.2.trans (h2.2.mono hh.2.2.size))⟩)
 have HZn : Hid (∀ Y, Below w.heap.size w Y → Calls Tryz.prog 103 #[.pointer (some ⟨k.pd, 0, none⟩)] Y fun e X => ∃ a n cc, e = .returned (.slice a n cc) ∧ (ZsIn X a n st.zs ∧ Below w.heap.size w X) ∧ X.cell? ⟨k'.ps, 0, none⟩ = some (.pointer (some ⟨k'.pd, 0, none⟩)) ∧ X.cell? ⟨k'.ps, 2, none⟩ = some (.pointer (some ⟨k'.pm, 0, none⟩)) ∧ X.cell? ⟨k'.ps, 3, none⟩ = some (.int .u64 st.q)) := fun Y hY => by
  refine (zones_of (H.out Y hY).1.dv HS.out.2.2).mono ?_
  rintro e X ⟨v, rfl, hz, hX⟩
  have hb := hY.trans (hX.mono hY.size)
  obtain ⟨a, cc, rfl⟩ := hz.slice
  exact ⟨a, _, cc, rfl, ⟨hz.zsin HS.out.2.2.short, hb⟩, HT.out X hb⟩
 have HDZn : Hid (∀ Y a n, ZsIn Y a n st.zs → Below w.heap.size w Y → Calls Tryz.prog 104 #[.pointer (some ⟨k'.pd, 0, none⟩)] Y fun e X => ∃ b n2 cc, e = .returned (.slice b n2 cc) ∧ (ZsIn X a n st.zs ∧ ZsIn X b n2 st.zs ∧ Below w.heap.size w X) ∧ X.cell? ⟨k'.ps, 0, none⟩ = some (.pointer (some ⟨k'.pd, 0, none⟩)) ∧ X.cell? ⟨k'.ps, 2, none⟩ = some (.pointer (some ⟨k'.pm, 0, none⟩)) ∧ X.cell? ⟨k'.ps, 3, none⟩ = some (.int .u64 st.q)) := fun Y a n ha hY => by
  refine (rZones_of (H.out Y hY).2.dv HS.out.2.2.short).mono ?_
  rintro e X ⟨v, rfl, hz, hX⟩
  have hb := hY.trans (hX.mono hY.size)
  obtain ⟨b, cc, rfl⟩ := hz.slice
  exact ⟨b, _, cc, rfl, ⟨ha.below hX, hz.zsin HS.out.2.2.short, hb⟩, HT.out X hb⟩
 have HSz : Hid (∀ Y a n b n2 c1 c2, (ZsIn Y a n st.zs ∧ ZsIn Y b n2 st.zs ∧ Below w.heap.size w Y) → Calls Tryz.prog 102 #[.slice a n c1, .slice b n2 c2] Y fun e X => e = .returned (.bool true) ∧ Below w.heap.size w X ∧ X.cell? ⟨k'.ps, 0, none⟩ = some (.pointer (some ⟨k'.pd, 0, none⟩)) ∧ X.cell? ⟨k'.ps, 2, none⟩ = some (.pointer (some ⟨k'.pm, 0, none⟩)) ∧ X.cell? ⟨k'.ps, 3, none⟩ = some (.int .u64 st.q)) := fun Y a n b n2 c1 c2 hh => (sameZones_of a n c1 b n2 c2 st.zs Y hh.1 hh.2.1).mono (fun e X h2 => by
  obtain ⟨rfl, kk, rfl⟩ := h2
  have hb := Go.below_drewN hh.2.2 kk
  exact ⟨rfl, hb, HT.out _ hb⟩)
 go_enter Tryz.func53, Tryz.ntmps53
 go_wp2_with fail
 go_loopw [5] (fun x wr => ∃ j : Nat, x = .int .i64 j ∧ j ≤ Z ∧ Below w.heap.size w wr) (fun x _ => Z - (intOf x).toNat)
 case atStart => exact ⟨0, rfl, Nat.zero_le _, Below.refl _ _⟩
 case round =>
  obtain ⟨j, rfl, hj, hb⟩ := hrel
  obtain ⟨c0, c1, c2, c3, cd⟩ := HC.out wr hb
  have HB : Hid (Below w.heap.size w wr) := hb
  clear hb
  rcases Nat.lt_or_ge j Z with hlt | hge
  ·have hj' : (j : Int) < Z := by omega
   have hwj : IntKind.i64.wrap ((j : Int) + 1) = (j : Int) + 1 := by rw [IntKind.wrap_i64]; omega
   have hL := HLa.out j
   have hD := HDLa.out j
   have hG := HGs.out j
   have hDG := HDGs.out j
   generalize lastI st.la (j : Nat) = L1 at hL hD
   generalize stZ st.L (j : Nat) = S1 at hG hDG
   clear HLa HDLa HGs HDGs
   go_wp2_with fail
   go_region_held3 (fun Y => Y.cell? ⟨k'.ps, 1, none⟩ = some (.pointer (some ⟨k'.pg, 0, none⟩))) (first | exact c1 | exact d1 | exact d2 | exact d3 | exact d4 | exact d5)
    (first
    | (go_simp; go_at_call 28; refine (hL _ (by exact HB.out.drew)).mono ?_; rintro e Y1 ⟨rfl, b1, d1⟩)
    | (go_simp; go_at_call 42; refine (hD _ (by exact b1)).mono ?_; rintro e Y2 ⟨rfl, b2, d2⟩)
    | (go_simp; go_at_call 23; refine (HSg.out _ (by exact b2)).mono ?_; rintro e Y3 ⟨rfl, b3, d3⟩)
    | (go_simp; go_at_call 24; refine (hG _ (by exact b3)).mono ?_; rintro e Y4 ⟨rfl, b4, d4⟩)
    | (go_simp; go_at_call 98; refine (hDG _ (by exact b4)).mono ?_; rintro e Y5 ⟨rfl, b5, d5⟩))
   have H5 : Hid (Below w.heap.size w Y5) := b5
   clear b1 b2 b3 b4 b5 d1 d2 d3 d4 d5 c0 c1 c2 c3 cd
   clear HSq HLo HDLo HMp HDv HAl HDAl HSp HZn HDZn HSz HT
   go_wp2
   go_roundw
   case rel => exact ⟨j + 1, by simp, by omega, H5.out⟩
   case measure => simp [intOf]; omega
  ·have hge' : ¬ (j : Int) < Z := by omega
   clear HLa HDLa HGs HDGs HSg
   generalize lowB st.L st.s.r = lo at HLo HDLo
   go_wp2_with fail
   go_region_held3 (fun Y => Y.cell? ⟨k'.ps, 0, none⟩ = some (.pointer (some ⟨k'.pd, 0, none⟩)) ∧ Y.cell? ⟨k'.ps, 2, none⟩ = some (.pointer (some ⟨k'.pm, 0, none⟩)) ∧ Y.cell? ⟨k'.ps, 3, none⟩ = some (.int .u64 st.q)) (first | exact ⟨c0, c2, c3⟩ | exact d1 | exact d2 | exact d3 | exact d4 | exact d5 | exact d6 | exact d7 | exact d8 | exact d9 | exact d10 | exact d11)
    (first
    | (go_simp; go_at_call 30; refine (HSq.out _ (by exact HB.out.drew)).mono ?_; rintro e Y1 ⟨rfl, b1, d1⟩)
    | (go_simp; go_at_call 55; refine (HLo.out _ (by exact b1)).mono ?_; rintro e Y2 ⟨rfl, b2, d2⟩)
    | (go_simp; go_at_call 56; refine (HDLo.out _ (by exact b2)).mono ?_; rintro e Y3 ⟨rfl, b3, d3⟩)
    | (go_simp; go_at_call 19; refine (HMp.out _ (by exact b3)).mono ?_; rintro e Y4 ⟨rfl, b4, d4⟩)
    | (go_simp; go_at_call 20; refine (HAl.out _ (by exact b4)).mono ?_; rintro e Y5 ⟨a5, cc5, rfl, b5, d5⟩)
    | (go_simp; go_at_call 97; refine (HDAl.out _ a5 (by exact b5.1) (by exact b5.2)).mono ?_; rintro e Y6 ⟨a6, cc6, rfl, b6, d6⟩)
    | (go_simp; go_at_call 101; refine (HSp.out _ a5 a6 cc5 cc6 (by exact b6)).mono ?_; rintro e Y7 ⟨rfl, b7, d7⟩)
    | (go_simp; go_at_call 25; refine (HDv.out _ (by exact b7)).mono ?_; rintro e Y8 ⟨rfl, b8, d8⟩)
    | (go_simp; go_at_call 103; refine (HZn.out _ (by exact b8)).mono ?_; rintro e Y9 ⟨a9, n9, cc9, rfl, b9, d9⟩)
    | (go_simp; go_at_call 104; refine (HDZn.out _ a9 n9 (by exact b9.1) (by exact b9.2)).mono ?_; rintro e Y10 ⟨a10, n10, cc10, rfl, b10, d10⟩)
    | (go_simp; go_at_call 102; refine (HSz.out _ a9 n9 a10 n10 cc9 cc10 (by exact b10)).mono ?_; rintro e Y11 ⟨rfl, b11, d11⟩))
   have H11 : Hid (Below w.heap.size w Y11) := b11
   clear b1 b2 b3 b4 b5 b6 b7 b8 b9 b10 b11 d1 d2 d3 d4 d5 d6 d7 d8 d9 d10 d11 c0 c1 c2 c3 cd
   clear HSq HLo HDLo HMp HDv HAl HDAl HSp HZn HDZn HSz HT
   go_wp2
   go_ret
   exact ⟨by simp, H11.out⟩
end
end Go.Proofs.YtncnkpnfmbgifaaGreat
