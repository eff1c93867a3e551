/- A table says of a text what the document's table says, whatever becomes of the lists that were lent to it or by it. -/
import Derived.Test.YtpliokkmiijieaaDoorRows
import Derived.Test.YtpliokkmiijieaaDoorCards
import Derived.Test.YtpliokkmiijieaaDoorTie
import Derived.Test.YtpliokkmiijieaaDoorLaid
import Derived.Test.YtpliokkmiijieaaDoorPOpen
import Derived.Test.YtpliokkmiijieaaDoorPChk
import Derived.BigQuiet
import Derived.Stop.Joined
import Derived.SevenTiedAt
import Derived.WalkKit
import Derived.ProofKit
import Derived.OpenShut
import Derived.ShutString
import Derived.ChangeOld
import Derived.Below
namespace Go.Proofs.YtpliokkmiijieaaDoor.passChecks
open Go.ChangeShapes Go.WideShapes Go.ChangeAt Go.RowKit
open Go.ChangeMaps (open_string shut_string)
set_option linter.unusedVariables false
set_option maxRecDepth 4000

theorem xor64_fits {a b : Int} (ha : 0 ≤ a ∧ a < 18446744073709551616) (hb : 0 ≤ b ∧ b < 18446744073709551616) : 0 ≤ bits .xor .u64 a b ∧ bits .xor .u64 a b < 18446744073709551616 := by
  rw [u64_xor a b ha.1 ha.2 hb.1 hb.2]
  have h1 : a.toNat < 2 ^ 64 := by omega
  have h2 : b.toNat < 2 ^ 64 := by omega
  have := Nat.xor_lt_two_pow h1 h2
  exact ⟨by omega, by omega⟩
theorem key_of {lo hi : Nat} {w : World} {t : Ten} {ka : Option Addr} {kn kc : Nat} {ga : Option Addr} {gn gc : Nat} {lo' : Nat} (h : TenIn lo' w (tenL t ka kn kc ga gn gc) t) (hk : KL lo w (tenL t ka kn kc ga gn gc)) (hh : w.heap.size ≤ hi) : KeyS lo hi w ka kn := by
  obtain ⟨⟨k1, _⟩, _⟩ := ten_parts h
  rcases k1.2.2.2 with h0 | ⟨b, off, ha, hc⟩
  · exact .inl h0
  · subst ha
    rcases hk _ _ _ rfl with h0 | ⟨cur, e, hl, h1⟩
    · exact .inl h0
    · refine .inr ⟨b, off, rfl, hl, by have := (Array.getElem?_eq_some_iff.1 h1).1; simp at this; omega, fun j => block_loose h1, fun j hj => ⟨_, hc j hj, k1.2.2.1 _ (by
        have : j < t.key.length := by rw [k1.1]; exact hj
        simp [List.getD, this])⟩⟩
set_option maxHeartbeats 8000000 in
theorem walk (a0 : Option Addr) (n0 c0 : Nat) (ts0 : List Ten) (a1 : Option Addr) (n1 c1 : Nat) (ss1 : List ByteArray) (a2 : Int) (w : World) (hG : GIn w) (w0 : TsIn 0 w a0 n0 ts0 ∧ n0 ≤ c0 ∧ (a0 = none → n0 = 0 ∧ c0 = 0)) (w1 : SsIn w a1 n1 ss1 ∧ n1 ≤ c1) (w2 : (Lit.int .u32 a2).wf = true) :
    Calls Tryd.prog 5 #[.slice a0 n0 c0, .slice a1 n1 c1, .int .u32 a2] w fun e w' => e = .returned (.bool true) ∧ Below w.heap.size w w' := by
  obtain ⟨q, hq⟩ : ∃ q, q = w.heap.size := ⟨_, rfl⟩
  have H : Hid (q = w.heap.size ∧ GIn w ∧ TsIn 0 w a0 n0 ts0 ∧ n0 ≤ c0 ∧ (a0 = none → n0 = 0 ∧ c0 = 0)) := ⟨hq, hG, w0⟩
  have HS : Hid (SsIn w a1 n1 ss1 ∧ n1 ≤ c1 ∧ Fits32 a2) := ⟨w1.1, w1.2, by have := bounds_u32 w2; unfold Fits32; omega⟩
  have TC := tenants_of 0 a0 n0 c0 ts0 w w0.1
  rw [← hq]
  clear hG w0 hq w1 w2
  have KN := pknown_any w H.out.2.1
  have fin : ∀ X, Below w.heap.size w X → Below q w X := fun X bX => by rw [H.out.1]; exact bX
  by_cases hfew : Few ts0
  · have hd : decide (Few ts0) = true := decide_eq_true hfew
    rw [hd] at TC
    have HF : Hid (Few ts0 ∧ (∀ t ∈ ts0, Small t) ∧ ts0.length ≤ 1000) := ⟨hfew, fun t ht => ⟨by have := (hfew.2 t ht).1; omega, by have := (hfew.2 t ht).2; omega⟩, by have := hfew.1; omega⟩
    have hn70 : n0 ≤ 70 := by rw [← H.out.2.2.1.1]; exact hfew.1
    clear hd hfew
    by_cases l2 : (30 : Int) < n1
    · go_enter Tryd.func5, Tryd.ntmps5
      go_upto_region 2 with (go_at_call 14; refine TC.mono ?_; rintro e w ⟨rfl, rfl⟩)
      go_wp2_with (go_at_call 9; refine KN.mono ?_; rintro e X ⟨rfl, bX⟩)
      go_ret
      exact ⟨rfl, fin X bX⟩
    · have l2' : (n1 : Int) ≤ 30 := by omega
      have hb0 : decide ((30 : Int) < n1) = false := by simpa using l2'
      clear l2
      go_enter Tryd.func5, Tryd.ntmps5
      go_upto_region 2 with (go_at_call 14; refine TC.mono ?_; rintro e w ⟨rfl, rfl⟩)
      clear TC
      go_upto_region 4 with (go_at_call 9; refine KN.mono ?_; rintro e u1 ⟨rfl, b1⟩)
      have H1 : Hid (Below w.heap.size w u1 ∧ q ≤ u1.heap.size ∧ TsIn 0 u1 a0 n0 ts0) := ⟨b1, by have := b1.size; have := H.out.1; omega, H.out.2.2.1.below b1⟩
      have LT := lentTenants_of 0 a0 n0 c0 ts0 u1 H1.out.2.2 (by omega) HF.out.2.1
      clear b1 KN fin
      go_upto_region 5 with (go_at_call 15; refine LT.mono ?_; rintro e u2 ⟨A, c', C, rfl, ow2, tc2, lb2, b2⟩)
      have H2 : Hid (RowS u1.heap.size u2.heap.size u2 A n0 ∧ TsIn u1.heap.size u2 A n0 ts0 ∧ Below u1.heap.size u1 u2 ∧ u1.heap.size ≤ u2.heap.size) := ⟨rowS_of ow2 tc2 lb2 HF.out.2.1, own_ts_lo ow2 tc2 (Nat.le_refl _), b2, b2.size⟩
      clear LT ow2 tc2 lb2 b2
      have NA := passNew_any u1.heap.size A n0 c' ts0 u2 H2.out.2.1 (by omega) HF.out.2.1
      go_upto_region 6 with (go_at_call 16; refine NA.mono ?_; rintro e u3 ⟨P, E, rfl, b3, hPE⟩)
      have H3 : Hid (Below u2.heap.size u2 u3 ∧ u2.heap.size ≤ u3.heap.size ∧ TsIn 0 u3 a0 n0 ts0 ∧ ((newE ts0 = 0 ∧ E = 0 ∧ TabIn u2.heap.size u3 P ts0) ∨ (newE ts0 ≠ 0 ∧ E = newE ts0 ∧ P = .pointer none))) := ⟨b3, b3.size, (H1.out.2.2.below H2.out.2.2.1).below b3, hPE⟩
      clear NA b3 hPE
      have NR := refNew_of 0 a0 n0 c0 ts0 u3 H3.out.2.2.1 (by omega) HF.out.2.1
      go_upto_region 7 with (go_at_call 17; refine NR.mono ?_; rintro e u4 ⟨P2, E2, rfl, b4, hPE2⟩)
      have H4 : Hid (Below u3.heap.size u3 u4 ∧ u3.heap.size ≤ u4.heap.size ∧ ((newE ts0 = 0 ∧ E2 = 0 ∧ RTab u3.heap.size u4 P2 ts0) ∨ (newE ts0 ≠ 0 ∧ E2 = newE ts0 ∧ P2 = .pointer none)) ∧ Below q w u4) := by
        have hq := H.out.1
        have h1 := H1.out.2.1
        have h2 := H2.out.2.2.2
        have h3 := H3.out.2.1
        refine ⟨b4, b4.size, hPE2, ?_⟩
        have x1 : Below q w u1 := by rw [hq]; exact H1.out.1
        exact ((x1.trans (H2.out.2.2.1.mono h1)).trans (H3.out.1.mono (by omega))).trans (b4.mono (by omega))
      clear NR b4 hPE2
      by_cases hE : newE ts0 = 0
      · have hEE : E = 0 ∧ E2 = 0 ∧ TabIn u2.heap.size u3 P ts0 ∧ RTab u3.heap.size u4 P2 ts0 := by
          rcases H3.out.2.2.2 with ⟨_, h2, h3⟩ | ⟨h, _⟩
          · rcases H4.out.2.2.1 with ⟨_, h4, h5⟩ | ⟨h, _⟩
            · exact ⟨h2, h4, h3, h5⟩
            · exact absurd hE h
          · exact absurd hE h
        obtain ⟨rfl, rfl, hT3, hT4⟩ := hEE
        obtain ⟨lo, hlo⟩ : ∃ lo, lo = u1.heap.size := ⟨_, rfl⟩
        obtain ⟨hi, hhi⟩ : ∃ hi, hi = u2.heap.size := ⟨_, rfl⟩
        have H5 : Hid (Mut q lo hi w u4 A n0 u4 ∧ TabIn hi u4 P ts0 ∧ RTab hi u4 P2 ts0 ∧ q ≤ lo ∧ lo ≤ hi ∧ hi ≤ u4.heap.size) := by
          have h2 := H2.out.2.2.2
          have h3 := H3.out.2.1
          have h4 := H4.out.2.1
          refine ⟨⟨H4.out.2.2.2, fun _ _ => rfl, rfl, ?_⟩, ?_, ?_, by rw [hlo]; exact H1.out.2.1, by omega, by omega⟩
          · have := H2.out.1
            rw [← hlo, ← hhi] at this
            exact this.below fun b _ hb => by rw [H4.out.1.block b (by omega), H3.out.1.block b (by omega)]
          · rw [hhi]; exact hT3.below H4.out.1
          · obtain ⟨g, A', n', c'', x1, x2, x3, x4, x5⟩ := hT4
            refine ⟨g, A', n', c'', x1, by omega, x3, x4, x5.imp _root_.id ?_⟩
            rintro ⟨b, off, y1, y2, y3⟩
            exact ⟨b, off, y1, by omega, fun r t ht => by obtain ⟨L, z1, z2⟩ := y3 r t ht; exact ⟨L, z1.lower (by omega), z2⟩⟩
        clear hE hT3 hT4 H2 H3 H4 hlo hhi
        go_wp2
        go_loopw [13, 14] (fun i j wr => ∃ k : Nat, k ≤ n0 ∧ i = .int .i64 k ∧ Mut q lo hi w u4 A n0 wr) (fun i _ _ => n0 - (intOf i).toNat)
        case atStart => exact ⟨0, by omega, rfl, H5.out.1⟩
        case round =>
          obtain ⟨k, hk, rfl, hm⟩ := hrel
          have HM : Hid (Mut q lo hi w u4 A n0 wr) := hm
          clear hm
          by_cases hlt : k < n0
          · have hlt' : (k : Int) < n0 := by omega
            obtain ⟨g, off, ha, hg1, hg2, hfz, hrow⟩ := HM.out.2.2.2.resolve_left (by omega)
            obtain ⟨ka, kn, kc, qu, c1, c2, hqu, hkn, hK⟩ := hrow k hlt
            subst ha
            have HR : Hid (lo ≤ g ∧ g < hi ∧ KeyS lo hi wr ka kn ∧ wr.cell? ⟨g, off + k * 5 + 1, none⟩ = some (.slice ka kn kc)) := ⟨hg1, hg2, hK, c1⟩
            clear hrow hK c2 hqu qu hfz
            obtain ⟨wk, hwk⟩ : ∃ wk, wk = wr := ⟨_, rfl⟩
            go_wp2
            rw [← hwk] at HR HM c1 ⊢
            clear hwk wr
            go_loopw [14] (fun j wr => ∃ m : Nat, m ≤ kn ∧ j = .int .i64 m ∧ Mut q lo hi w u4 (some ⟨g, off, none⟩) n0 wr ∧ KeyS lo hi wr ka kn ∧ wr.cell? ⟨g, off + k * 5 + 1, none⟩ = some (.slice ka kn kc)) (fun j _ => kn - (intOf j).toNat)
            case atStart => exact ⟨0, by omega, rfl, HM.out, HR.out.2.2.1, c1⟩
            case round =>
              obtain ⟨m, hm, rfl, hmut, hK, c1⟩ := hrel
              have HN : Hid (Mut q lo hi w u4 (some ⟨g, off, none⟩) n0 wr ∧ KeyS lo hi wr ka kn) := ⟨hmut, hK⟩
              clear hmut hK
              by_cases hmk : m < kn
              · have hmk' : (m : Int) < kn := by omega
                obtain ⟨kb, ko, hka, hb1, hb2, hfz, hx⟩ := HN.out.2.resolve_left (by omega)
                subst hka
                obtain ⟨x, cx, fx⟩ := hx m hmk
                have fz := hfz (ko + m)
                have fx0 : 0 ≤ x := fx.1
                have fx1 : x < 256 := fx.2
                clear hx hfz
                go_wp2
                go_region
                have HN2 : Hid (Mut q lo hi w u4 (some ⟨g, off, none⟩) n0 (wr.setCell ⟨kb, ko + m, none⟩ (.int .u8 (bits .xor .u8 x 85))).drew ∧ KeyS lo hi (wr.setCell ⟨kb, ko + m, none⟩ (.int .u8 (bits .xor .u8 x 85))).drew (some ⟨kb, ko, none⟩) kn ∧ (wr.setCell ⟨kb, ko + m, none⟩ (.int .u8 (bits .xor .u8 x 85))).drew.cell? ⟨g, off + k * 5 + 1, none⟩ = some (.slice (some ⟨kb, ko, none⟩) kn kc)) := by
                  have hy : Fits8 (bits .xor .u8 x 85) := xor8_fits fx (by unfold Fits8; omega)
                  refine ⟨(HN.out.1.set H5.out.2.2.2.1 cx hb1 hb2 (fun _ => hy) (fun h => by cases h)).drewN 1, ((HN.out.2.set cx (fun _ => hy)).below fun _ _ _ => rfl), ?_⟩
                  rcases set_kind (y := bits .xor .u8 x 85) cx c1 with h | ⟨_, hv, _⟩
                  · exact h
                  · cases hv
                clear cx fz c1
                generalize World.drew _ = Y at HN2 ⊢
                go_wp2
                go_roundw
                case rel => exact ⟨m + 1, by omega, by go_num, HN2.out.1, HN2.out.2.1, HN2.out.2.2⟩
                case measure => simp [intOf]; omega
              · have hge : (kn : Int) ≤ m := by omega
                obtain ⟨g', off', ha, hg1, hg2, hfz, hrow⟩ := HN.out.1.2.2.2.resolve_left (by omega)
                cases ha
                obtain ⟨ka', kn', kc', qu, c1', c2, hqu, _, _⟩ := hrow k hlt
                have fz := hfz (off + k * 5 + 2)
                obtain ⟨hq0, hq1⟩ := hqu
                clear hrow hfz c1'
                have HN2 : Hid (Mut q lo hi w u4 (some ⟨g, off, none⟩) n0 (wr.setCell ⟨g, off + k * 5 + 2, none⟩ (.int .u64 (bits .xor .u64 qu 3)))) := HN.out.1.set H5.out.2.2.2.1 c2 hg1 hg2 (fun h => by cases h) (fun _ => xor64_fits ⟨hq0, hq1⟩ (by omega))
                go_wp2
                go_roundw
                case rel => exact ⟨k + 1, by omega, by go_num, HN2.out⟩
                case measure => simp [intOf]; omega
          · have hge : (n0 : Int) ≤ k := by omega
            obtain ⟨Z, hZ⟩ : ∃ Z, Z = wr := ⟨_, rfl⟩
            rw [← hZ] at HM ⊢
            clear hZ wr
            have HZ : Hid (Below q w Z ∧ TabIn hi Z P ts0 ∧ RTab hi Z P2 ts0 ∧ GIn Z ∧ SsIn Z a1 n1 ss1 ∧ q ≤ Z.heap.size) := by
              have kp : Keeps hi u4 Z := fun b hb _ => HM.out.2.1 b (.inr hb)
              have bw : Below w.heap.size w Z := by rw [← H.out.1]; exact HM.out.1
              exact ⟨HM.out.1, H5.out.2.1.keeps kp, H5.out.2.2.1.keeps kp, H.out.2.1.below bw H.out.2.1.lt, HS.out.1.below bw, by have := bw.size; have := H.out.1; omega⟩
            clear HM H5
            go_wp2
            go_loopw [15] (fun i wr => ∃ k : Nat, k ≤ n1 ∧ i = .int .i64 k ∧ Below Z.heap.size Z wr) (fun i _ => n1 - (intOf i).toNat)
            case atStart => exact ⟨0, by omega, rfl, Below.refl _ _⟩
            case round =>
              obtain ⟨k2, hk2, rfl, hb⟩ := hrel
              have HB : Hid (Below Z.heap.size Z wr ∧ Below q w wr ∧ TabIn hi wr P ts0 ∧ RTab hi wr P2 ts0 ∧ GIn wr ∧ SsIn wr a1 n1 ss1 ∧ q ≤ wr.heap.size) :=
                ⟨hb, HZ.out.1.trans (hb.mono HZ.out.2.2.2.2.2), HZ.out.2.1.below hb, HZ.out.2.2.1.below hb, HZ.out.2.2.2.1.below hb HZ.out.2.2.2.1.lt, HZ.out.2.2.2.2.1.below hb, by have := hb.size; have := HZ.out.2.2.2.2.2; omega⟩
              clear hb
              by_cases hlt2 : k2 < n1
              · have hlt2' : (k2 : Int) < n1 := by omega
                obtain ⟨b, off, ha, hcell⟩ := HB.out.2.2.2.2.2.1.2.resolve_left (by omega)
                subst ha
                obtain ⟨s, hs⟩ : ∃ s, ss1[k2]? = some s := ⟨_, List.getElem?_eq_getElem (by rw [HB.out.2.2.2.2.2.1.1]; exact hlt2)⟩
                have cs := hcell k2 s hs
                have HC : Hid (∀ r s, ss1[r]? = some s → wr.cell? ⟨b, off + r, none⟩ = some (.string s)) := hcell
                clear hcell hs
                by_cases h4 : (400 : Int) < s.size
                · go_wp2
                  go_ret
                  exact ⟨rfl, HB.out.2.1⟩
                · have h4' : (s.size : Int) ≤ 400 := by omega
                  have CK := check_of hi P ts0 s (numsOf s) s.size wr HB.out.2.2.1 HB.out.2.2.2.2.1 (numsOf_str s) (numsOf_fits s) (numsOf_length s) (by omega) HF.out.2.1
                  have CR := fun U h => refCheck_of hi P2 ts0 s (numsOf s) s.size U h (numsOf_str s) (numsOf_fits s) (numsOf_length s) (by omega) HF.out.2.1 HF.out.2.2
                  obtain ⟨R1, R2, hR⟩ : ∃ R1 R2, checkI ts0 (numsOf s) = (R1, R2) := ⟨_, _, rfl⟩
                  have hRb := checkI_code ts0 (numsOf s)
                  rw [hR] at CK CR hRb
                  dsimp only at CK CR hRb
                  obtain ⟨hr0, hr1⟩ := hRb
                  clear hR
                  go_upto_region 25 with (first
                    | (go_at_call 18; refine CK.mono ?_; rintro e v1 ⟨rfl, bv1⟩)
                    | (refine wpList_store_mid rfl 26 (.tmp 16) (.tmp 122) rfl v1.heap.size 0 (tokL R1).toArray rfl rfl ?hT (tok_size _) (tok_all _) ?_; (case hT => exact tok_there _)))
                  generalize hU : World.setCells _ _ _ _ = U
                  obtain ⟨g1, hg1⟩ : ∃ g1, g1 = v1.heap.size := ⟨_, rfl⟩
                  rw [← hg1]
                  have HU : Hid (Below wr.heap.size wr U ∧ wr.heap.size ≤ U.heap.size ∧ Blk U g1 (tokL R1) 26) := by
                    have h1 := bv1.size
                    have bk : Blk U g1 (tokL R1) 26 := by rw [← hU, hg1]; exact (Blk.new' (L := tokL tok0) rfl rfl).setAll (by rfl)
                    have bu : Below v1.heap.size v1 U := by rw [← hU]; exact below_setCells (Nat.le_refl _) _ _ _ ((Below.refl _ _).alloc (Nat.le_refl _) _)
                    have bb : Below wr.heap.size wr U := bv1.trans (bu.mono h1)
                    exact ⟨bb, bb.size, bk⟩
                  have CU := CR U (HB.out.2.2.2.1.below HU.out.1)
                  have cs2 : U.cell? ⟨b, off + k2, none⟩ = some (.string s) := by rw [HU.out.1.cell (old_block cs)]; exact cs
                  clear hU hg1 bv1 CK CR cs
                  go_upto_region 26 with (first
                    | (go_at_call 19; refine CU.mono ?_; rintro e v2 ⟨rfl, bv2⟩)
                    | (refine wpList_store_mid rfl 26 (.tmp 18) (.tmp 131) rfl v2.heap.size 0 (tokL R1).toArray rfl rfl ?hT (tok_size _) (tok_all _) ?_; (case hT => exact tok_there _)))
                  generalize hV : World.setCells _ _ _ _ = V
                  obtain ⟨g2, hg2⟩ : ∃ g2, g2 = v2.heap.size := ⟨_, rfl⟩
                  rw [← hg2]
                  have HV : Hid (Below Z.heap.size Z V ∧ Blk V g1 (tokL R1) 26 ∧ Blk V g2 (tokL R1) 26) := by
                    have h1 := bv2.size
                    have bk : Blk V g2 (tokL R1) 26 := by rw [← hV, hg2]; exact (Blk.new' (L := tokL tok0) rfl rfl).setAll (by rfl)
                    have bu : Below v2.heap.size v2 V := by rw [← hV]; exact below_setCells (Nat.le_refl _) _ _ _ ((Below.refl _ _).alloc (Nat.le_refl _) _)
                    have bb : Below U.heap.size U V := bv2.trans (bu.mono h1)
                    have h2 := HB.out.1.size
                    have h3 := HU.out.2.1
                    exact ⟨(HB.out.1.trans (HU.out.1.mono h2)).trans (bb.mono (by omega)), HU.out.2.2.below bb HU.out.2.2.lt, bk⟩
                  clear hV hg2 bv2 CU cs2 HU
                  have p0 : V.cell? ⟨g1, 0, none⟩ = some (.int .u32 R1.tenant) := HV.out.2.1.cell 0
                  have p1 : V.cell? ⟨g1, 1, none⟩ = some (.int .u32 R1.serial) := HV.out.2.1.cell 1
                  have p2 : V.cell? ⟨g1, 2, none⟩ = some (.bool R1.ro) := HV.out.2.1.cell 2
                  have p3 : V.cell? ⟨g1, 3, none⟩ = some (.int .u64 R1.size) := HV.out.2.1.cell 3
                  have r0 : V.cell? ⟨g2, 0, none⟩ = some (.int .u32 R1.tenant) := HV.out.2.2.cell 0
                  have r1 : V.cell? ⟨g2, 1, none⟩ = some (.int .u32 R1.serial) := HV.out.2.2.cell 1
                  have r2 : V.cell? ⟨g2, 2, none⟩ = some (.bool R1.ro) := HV.out.2.2.cell 2
                  have r3 : V.cell? ⟨g2, 3, none⟩ = some (.int .u64 R1.size) := HV.out.2.2.cell 3
                  go_wp2
                  go_roundw
                  case rel => exact ⟨k2 + 1, by omega, by go_num, HV.out.1⟩
                  case measure => simp [intOf]; omega
              · have hge2 : (n1 : Int) ≤ k2 := by omega
                obtain ⟨t, ht⟩ : ∃ t, t = (findT ts0 a2).getD ten0 := ⟨_, rfl⟩
                obtain ⟨B, hB⟩ : ∃ B, B = (findT ts0 a2).isSome := ⟨_, rfl⟩
                have T1 := tenant_of2 hi P ts0 a2 wr HB.out.2.2.1 HS.out.2.2 HF.out.2.1
                have T2 := fun U h => refTenant_of hi P2 ts0 a2 U h HS.out.2.2 HF.out.2.1 HF.out.2.2
                have T3 := fun U h => tenant_of hi P ts0 a2 U h HS.out.2.2 HF.out.2.1
                rw [← ht, ← hB] at T1 T2 T3
                have HT : Hid (Small t) := by show Small t; rw [ht]; exact small_find HF.out.2.1 _
                obtain ⟨h1, hh1⟩ : ∃ h1, h1 = wr.heap.size := ⟨_, rfl⟩
                rw [← hh1] at T1
                clear ht hB
                go_upto_region 29 with (first
                  | (go_at_call 20; refine T1.mono ?_; rintro e v1 ⟨L1, rfl, hT1, bv1, kl1⟩; obtain ⟨ka, kn, kc, ga, gn, gc, hL1, _⟩ := _root_.id hT1; subst hL1)
                  | (refine wpList_store_mid rfl 49 (.tmp 20) (.tmp 146) rfl v1.heap.size 0 (tenL t ka kn kc ga gn gc).toArray rfl rfl ?hT (ten_size _ _ _ _ _ _ _) (ten_all _ _ _ _ _ _ _) ?_; (case hT => exact ten_there _)))
                generalize hU : World.setCells _ _ _ _ = U
                obtain ⟨g1, hg1⟩ : ∃ g1, g1 = v1.heap.size := ⟨_, rfl⟩
                rw [← hg1]
                have HU : Hid (Below wr.heap.size wr U ∧ Blk U g1 (tenL t ka kn kc ga gn gc) 49 ∧ KeyS h1 g1 U ka kn ∧ h1 ≤ g1 ∧ g1 < U.heap.size ∧ h1 = wr.heap.size ∧ kn ≤ 1000) := by
                  have e1 := bv1.size
                  have bk : Blk U g1 (tenL t ka kn kc ga gn gc) 49 := by rw [← hU, hg1]; exact (Blk.new' (L := ten0L) rfl rfl).setAll (by rfl)
                  have bu : Below v1.heap.size v1 U := by rw [← hU]; exact below_setCells (Nat.le_refl _) _ _ _ ((Below.refl _ _).alloc (Nat.le_refl _) _)
                  have bb : Below wr.heap.size wr U := by rw [hh1] at bv1; exact bv1.trans (bu.mono (by omega))
                  exact ⟨bb, bk, (key_of hT1 kl1 (by omega)).below fun b _ hb => bu.block b (by omega), by omega, bk.lt, hh1, by rw [← (ten_parts hT1).1.1.1]; exact HT.out.1⟩
                have T2U := T2 U (HB.out.2.2.2.1.below HU.out.1)
                clear hU hg1 bv1 kl1 hT1 T1 T2 hh1
                go_upto_region 30 with (first
                  | (go_at_call 21; refine T2U.mono ?_; rintro e v2 ⟨L2, rfl, hT2, bv2⟩; obtain ⟨ka2, kn2, kc2, ga2, gn2, gc2, hL2, _⟩ := _root_.id hT2; subst hL2)
                  | (refine wpList_store_mid rfl 49 (.tmp 22) (.tmp 152) rfl v2.heap.size 0 (tenL t ka2 kn2 kc2 ga2 gn2 gc2).toArray rfl rfl ?hT (ten_size _ _ _ _ _ _ _) (ten_all _ _ _ _ _ _ _) ?_; (case hT => exact ten_there _)))
                generalize hV : World.setCells _ _ _ _ = V
                obtain ⟨g2, hg2⟩ : ∃ g2, g2 = v2.heap.size := ⟨_, rfl⟩
                rw [← hg2]
                have HV : Hid (Below wr.heap.size wr V ∧ Blk V g1 (tenL t ka kn kc ga gn gc) 49 ∧ KeyS h1 g1 V ka kn ∧ Blk V g2 (tenL t ka2 kn2 kc2 ga2 gn2 gc2) 49 ∧ TenIn g1 V (tenL t ka2 kn2 kc2 ga2 gn2 gc2) t ∧ g1 < g2) := by
                  have e1 := bv2.size
                  have e2 := HU.out.2.2.2.2.1
                  have e3 := HU.out.1.size
                  have bk : Blk V g2 (tenL t ka2 kn2 kc2 ga2 gn2 gc2) 49 := by rw [← hV, hg2]; exact (Blk.new' (L := ten0L) rfl rfl).setAll (by rfl)
                  have bu : Below v2.heap.size v2 V := by rw [← hV]; exact below_setCells (Nat.le_refl _) _ _ _ ((Below.refl _ _).alloc (Nat.le_refl _) _)
                  have bb : Below U.heap.size U V := bv2.trans (bu.mono e1)
                  exact ⟨HU.out.1.trans (bb.mono e3), HU.out.2.1.below bb e2, HU.out.2.2.1.below fun b _ hb => bb.block b (by omega), bk, (hT2.below bu).lower (by omega), by omega⟩
                have hkn := HU.out.2.2.2.2.2.2
                clear hV hg2 bv2 T2U hT2
                go_wp2
                go_loopw [24] (fun j wv => ∃ m : Nat, m ≤ kn ∧ j = .int .i64 m ∧ (∀ b, b < h1 ∨ g1 ≤ b → wv.heap[b]? = V.heap[b]?) ∧ wv.heap.size = V.heap.size ∧ KeyS h1 g1 wv ka kn ∧ Below q w wv) (fun j _ => kn - (intOf j).toNat)
                case atStart => exact ⟨0, by omega, rfl, fun _ _ => rfl, rfl, HV.out.2.2.1, HB.out.2.1.trans (HV.out.1.mono HB.out.2.2.2.2.2.2)⟩
                case round =>
                  obtain ⟨m, hm, rfl, hk3, hs3, hK3, hb3⟩ := hrel
                  have HN : Hid (KeyS h1 g1 wr ka kn ∧ Below q w wr ∧ (∀ b, b < h1 ∨ g1 ≤ b → wr.heap[b]? = V.heap[b]?) ∧ wr.heap.size = V.heap.size ∧ Blk wr g1 (tenL t ka kn kc ga gn gc) 49 ∧ Blk wr g2 (tenL t ka2 kn2 kc2 ga2 gn2 gc2) 49 ∧ TenIn g1 wr (tenL t ka2 kn2 kc2 ga2 gn2 gc2) t ∧ TabIn hi wr P ts0 ∧ q ≤ h1) := by
                    have hg12 := HV.out.2.2.2.2.2
                    refine ⟨hK3, hb3, hk3, hs3, ?_, ?_, HV.out.2.2.2.2.1.keeps fun b hb _ => hk3 b (.inr hb), HB.out.2.2.1.keeps fun b _ hb => ?_, by rw [HU.out.2.2.2.2.2.1]; exact HB.out.2.2.2.2.2.2⟩
                    · have := HV.out.2.1
                      unfold Blk at this ⊢
                      rw [hk3 g1 (.inr (Nat.le_refl _))]
                      exact this
                    · have := HV.out.2.2.2.1
                      unfold Blk at this ⊢
                      rw [hk3 g2 (.inr (by omega))]
                      exact this
                    · rw [hk3 b (.inl (by rw [HU.out.2.2.2.2.2.1]; exact hb)), HV.out.1.block b hb]
                  clear hk3 hs3 hK3 hb3
                  have c1 : wr.cell? ⟨g1, 1, none⟩ = some (.slice ka kn kc) := HN.out.2.2.2.2.1.cell 1
                  by_cases hmk : m < kn
                  · have hmk' : (m : Int) < kn := by omega
                    obtain ⟨kb, ko, hka, hb1, hb2, hfz, hx⟩ := HN.out.1.resolve_left (by omega)
                    subst hka
                    obtain ⟨x, cx, fx⟩ := hx m hmk
                    have fz := hfz (ko + m)
                    have fx0 : 0 ≤ x := fx.1
                    have fx1 : x < 256 := fx.2
                    clear hx hfz
                    go_wp2
                    go_region
                    have HN2 : Hid ((∀ b, b < h1 ∨ g1 ≤ b → (wr.setCell ⟨kb, ko + m, none⟩ (.int .u8 (bits .xor .u8 x 255))).drew.heap[b]? = V.heap[b]?) ∧ (wr.setCell ⟨kb, ko + m, none⟩ (.int .u8 (bits .xor .u8 x 255))).drew.heap.size = V.heap.size ∧ KeyS h1 g1 (wr.setCell ⟨kb, ko + m, none⟩ (.int .u8 (bits .xor .u8 x 255))).drew (some ⟨kb, ko, none⟩) kn ∧ Below q w (wr.setCell ⟨kb, ko + m, none⟩ (.int .u8 (bits .xor .u8 x 255))).drew) := by
                      have hy : Fits8 (bits .xor .u8 x 255) := xor8_fits fx (by unfold Fits8; omega)
                      have hq1 := HN.out.2.2.2.2.2.2.2.2
                      refine ⟨fun b hb => ?_, ?_, ((HN.out.1.set cx (fun _ => hy)).below fun _ _ _ => rfl), (HN.out.2.1.setCell (by show q ≤ kb; omega) _).drew⟩
                      · show (wr.setCell ⟨kb, ko + m, none⟩ (.int .u8 (bits .xor .u8 x 255))).heap[b]? = V.heap[b]?
                        rw [Below.heap_setCell _ _ _ b (by show b ≠ kb; omega)]
                        exact HN.out.2.2.1 b hb
                      · rw [← HN.out.2.2.2.1]
                        simp [World.setCell, World.drew]
                    clear cx fz c1
                    generalize World.drew _ = Y at HN2 ⊢
                    go_wp2
                    go_roundw
                    case rel => exact ⟨m + 1, by omega, by go_num, HN2.out.1, HN2.out.2.1, HN2.out.2.2.1, HN2.out.2.2.2⟩
                    case measure => simp [intOf]; omega
                  · have hge3 : (kn : Int) ≤ m := by omega
                    have T3U := T3 wr HN.out.2.2.2.2.2.2.2.1
                    clear T3
                    go_upto_region 35 with (first
                      | (go_at_call 20; refine T3U.mono ?_; rintro e v3 ⟨L3, rfl, hT3, bv3⟩; obtain ⟨ka3, kn3, kc3, ga3, gn3, gc3, hL3, _⟩ := _root_.id hT3; subst hL3)
                      | (refine wpList_store_mid rfl 49 (.tmp 25) (.tmp 175) rfl v3.heap.size 0 (tenL t ka3 kn3 kc3 ga3 gn3 gc3).toArray rfl rfl ?hT (ten_size _ _ _ _ _ _ _) (ten_all _ _ _ _ _ _ _) ?_; (case hT => exact ten_there _)))
                    generalize hX : World.setCells _ _ _ _ = X
                    obtain ⟨g3, hg3⟩ : ∃ g3, g3 = v3.heap.size := ⟨_, rfl⟩
                    rw [← hg3]
                    have HX : Hid (Below q w X ∧ Blk X g3 (tenL t ka3 kn3 kc3 ga3 gn3 gc3) 49 ∧ Blk X g2 (tenL t ka2 kn2 kc2 ga2 gn2 gc2) 49 ∧ TenIn 0 X (tenL t ka3 kn3 kc3 ga3 gn3 gc3) t ∧ TenIn 0 X (tenL t ka2 kn2 kc2 ga2 gn2 gc2) t ∧ q ≤ X.heap.size) := by
                      have e1 := bv3.size
                      have bk : Blk X g3 (tenL t ka3 kn3 kc3 ga3 gn3 gc3) 49 := by rw [← hX, hg3]; exact (Blk.new' (L := ten0L) rfl rfl).setAll (by rfl)
                      have bu : Below v3.heap.size v3 X := by rw [← hX]; exact below_setCells (Nat.le_refl _) _ _ _ ((Below.refl _ _).alloc (Nat.le_refl _) _)
                      have bb : Below wr.heap.size wr X := bv3.trans (bu.mono e1)
                      have e2 := bb.size
                      have e3 := HN.out.2.2.2.2.1.lt
                      have e4 := HU.out.2.2.2.1
                      have e5 := HN.out.2.2.2.2.2.2.2.2
                      exact ⟨HN.out.2.1.trans (bb.mono (by omega)), bk, HN.out.2.2.2.2.2.1.below bb HN.out.2.2.2.2.2.1.lt, (hT3.below bu).lower (Nat.zero_le _), (HN.out.2.2.2.2.2.2.1.below bb).lower (Nat.zero_le _), by omega⟩
                    have ST := sameTenant_of 0 0 _ _ t X HX.out.2.2.2.1 HX.out.2.2.2.2.1 HT.out.2
                    clear hX hg3 bv3 T3U hT3 c1
                    have p0 : X.cell? ⟨g3, 0, none⟩ = some (.int .u32 t.id) := HX.out.2.1.cell 0
                    have p1 : X.cell? ⟨g3, 1, none⟩ = some (.slice ka3 kn3 kc3) := HX.out.2.1.cell 1
                    have p2 : X.cell? ⟨g3, 2, none⟩ = some (.int .u64 t.quota) := HX.out.2.1.cell 2
                    have p3 : X.cell? ⟨g3, 3, none⟩ = some (.int .u64 t.size) := HX.out.2.1.cell 3
                    have p4 : X.cell? ⟨g3, 4, none⟩ = some (.slice ga3 gn3 gc3) := HX.out.2.1.cell 4
                    have r0 : X.cell? ⟨g2, 0, none⟩ = some (.int .u32 t.id) := HX.out.2.2.1.cell 0
                    have r1 : X.cell? ⟨g2, 1, none⟩ = some (.slice ka2 kn2 kc2) := HX.out.2.2.1.cell 1
                    have r2 : X.cell? ⟨g2, 2, none⟩ = some (.int .u64 t.quota) := HX.out.2.2.1.cell 2
                    have r3 : X.cell? ⟨g2, 3, none⟩ = some (.int .u64 t.size) := HX.out.2.2.1.cell 3
                    have r4 : X.cell? ⟨g2, 4, none⟩ = some (.slice ga2 gn2 gc2) := HX.out.2.2.1.cell 4
                    go_wp2_with (go_at_call 22; refine ST.mono ?_; rintro e X2 ⟨rfl, bX⟩)
                    go_ret
                    exact ⟨rfl, HX.out.1.trans (bX.mono HX.out.2.2.2.2.2)⟩
      · have hE13 : newE ts0 = 3 ∨ newE ts0 = 1 := by
          unfold newE at hE ⊢
          by_cases h64 : 64 < ts0.length
          · left; rw [if_pos h64]
          · right
            rw [if_neg h64] at hE ⊢
            by_cases hk : TabOk ts0
            · rw [if_pos hk] at hE; exact absurd rfl hE
            · rw [if_neg hk]
        have hEE : E = newE ts0 ∧ P = .pointer none ∧ E2 = newE ts0 := by
          rcases H3.out.2.2.2 with ⟨h, _⟩ | ⟨_, h2, h3⟩
          · exact absurd h hE
          · rcases H4.out.2.2.1 with ⟨h, _⟩ | ⟨_, h4, h5⟩
            · exact absurd h hE
            · exact ⟨h2, h3, h4⟩
        obtain ⟨e1, rfl, e2⟩ := hEE
        clear hE
        rcases hE13 with h | h
        · obtain rfl : E = 3 := by rw [e1, h]
          obtain rfl : E2 = 3 := by rw [e2, h]
          clear e1 e2 h
          go_wp2
          go_ret
          exact ⟨rfl, H4.out.2.2.2⟩
        · obtain rfl : E = 1 := by rw [e1, h]
          obtain rfl : E2 = 1 := by rw [e2, h]
          clear e1 e2 h
          go_wp2
          go_ret
          exact ⟨rfl, H4.out.2.2.2⟩
  · have hd : decide (Few ts0) = false := decide_eq_false hfew
    rw [hd] at TC
    clear hd hfew
    go_enter Tryd.func5, Tryd.ntmps5
    go_upto_region 2 with (go_at_call 14; refine TC.mono ?_; rintro e w ⟨rfl, rfl⟩)
    go_wp2_with (go_at_call 9; refine KN.mono ?_; rintro e X ⟨rfl, bX⟩)
    go_ret
    exact ⟨rfl, fin X bX⟩

set_option maxRecDepth 100000 in
theorem lifted (os : Os) (started : os.Started) (H : Type) (enc : TypeId × Value → H) :
    ReturnsInHanded {} Tryd.checked os 5 .any (fun w args => (Rows.passChecksSpec.pre enc Tryd.prog Tryd.f5 [] false w args ∧ laidMetH Tryd.prog laid2 w) ∧ sizedMet enc Tryd.prog Tryd.f5 (OpenSpec.ofChange Rows.passChecksSpec) false w args)
      (Rows.passChecksSpec.post enc Tryd.prog Tryd.f5 false true false false) := by
  refine returnsInHanded_of_change_and (C := Tryd.checked) (X := fun w _ => laidMetH Tryd.prog laid2 w) (fun _ _ _ hh h => h.of_heap hh) own started (by kernel_rfl) Tryd.func5
    (ChangeSpec.witness_shaped (enc := enc) (C := Tryd.checked) (os := os) (X := fun w _ => laidMetH Tryd.prog laid2 w) false (World.doorLaid Tryd.prog 400 os) #[.slice none 0 0, .slice none 0 0, .int .u32 0] 8 rfl (World.shaped_of_RefB (by kernel_rfl) (by kernel_rfl)) (by kernel_rfl) (by kernel_rfl) (by kernel_rfl) (door_met os _)) ?_
  intro W base args ds gs before hval0 hW hcnd _ hL _
  have hval : ∀ (j : Nat) t v, Tryd.f5.params[j]? = some t → args[j]? = some v → Value.okWide Tryd.prog W .any base t v := hval0
  have hW' := hW
  obtain ⟨p, q, hA0, hV, rfl, hfz, hnd⟩ := hW
  have hA : DataW.TrodAll enc Tryd.prog W 0 (fun _ => true) true Tryd.f5.params.toList args.toList ds p := hA0
  rw [Tryd.params5] at hA hval
  obtain ⟨v0, vs0, d0, ds0, p0, q0, hargs, rfl, rfl, h0, r0⟩ := trodAll_cons hA
  obtain ⟨v1, vs1, d1, ds1, p1, q1, rfl, rfl, rfl, h1, r1⟩ := trodAll_cons r0
  obtain ⟨v2, vs2, d2, ds2, p2, q2, rfl, rfl, rfl, h2, r2⟩ := trodAll_cons r1
  obtain ⟨rfl, rfl, rfl⟩ := trodAll_nil r2
  obtain rfl : args = #[v0, v1, v2] := by cases args; simp_all
  obtain ⟨rfl, rfl⟩ := trodVars_none hV
  obtain ⟨a0, n0, c0, rfl⟩ := okWide_slice Tryd.underlying37 (hval 0 37 v0 rfl rfl)
  have k0 := h0
  have lt0 : ∀ x ∈ p0, x.block < W.heap.size := by obtain ⟨m, hm⟩ := k0; exact DataW.trod_lt m _ _ _ hm
  obtain ⟨ts0, w0⟩ := open_tens h0
  obtain ⟨a1, n1, c1, rfl⟩ := okWide_slice Tryd.underlying38 (hval 1 38 v1 rfl rfl)
  have k1 := h1
  have lt1 : ∀ x ∈ p1, x.block < W.heap.size := by obtain ⟨m, hm⟩ := k1; exact DataW.trod_lt m _ _ _ hm
  obtain ⟨ss1, w1⟩ := open_strs h1
  obtain ⟨a2, rfl, rfl, rfl, w2⟩ := open_int Tryd.underlying23 (hval 2 23 v2 rfl rfl) h2
  clear hA0 hval0
  refine (walk a0 n0 c0 ts0 a1 n1 c1 ss1 a2 W (of_laid hL) w0 w1 w2).mono fun e W' ⟨he, bel⟩ => ?_
  subst he
  exact ⟨_, rfl, _, _, _, [], _, [], hW', trodAll_mk1 (shut_bool Tryd.underlying4 _), (trodAll_cons_mk (Below.trod laidOut (by kernel_rfl) (of_decide_eq_true (by kernel_rfl)) k0 bel lt0) (trodAll_cons_mk (Below.trod laidOut (by kernel_rfl) (of_decide_eq_true (by kernel_rfl)) k1 bel lt1) (trodAll_cons_mk (shut_int Tryd.underlying23 w2) trodAll_mk0))), rfl, bel.frame _, fun h => by cases h⟩

theorem over : Rows.passChecksRow.holds Tryd.pinned (OpenSpec.ofChange Rows.passChecksSpec) :=
  OpenClaim.holds_of_wide 5 Tryd.f5 rfl rfl rfl rfl rfl rfl rfl ⟨rfl, rfl, rfl, rfl, rfl⟩ rfl rfl rfl rfl rfl (by kernel_rfl) Tryd.func5 (by kernel_rfl)
    (of_decide_eq_true (by kernel_rfl)) (by unfold Func.isWrapper; first | (rw [if_pos (by decide +kernel)]; kernel_rfl) | (rw [if_neg (by decide +kernel)]; exact ⟨rfl, rfl⟩))
    (fun os started H enc _ => lifted os started H enc)

theorem said : Rows.PassChecksSaid := over
end Go.Proofs.YtpliokkmiijieaaDoor.passChecks
namespace Go.Proofs.YtpliokkmiijieaaDoor
/-- The tied card. -/
theorem passChecks_card : Rows.PassChecksCardSaid :=
  Claim7.holds_tied_plain_at .later [] [.data, .data] true (true, "174549403fd69341d97145101e0688a2ff013689e5871de57477a2bae9234ed5") false
    passChecks.said (fun _ h => by cases h) (by kernel_rfl) (fun _ h => by cases h) passChecks_row_tie rfl ⟨rfl, rfl⟩ (by kernel_rfl) rfl
    (fun f fn hf hfn => by
      obtain rfl : f = 5 := Option.some.inj ((show Tryd.prog.funcNamed "coaming/coaminglaw05.PassChecks" = some 5 by kernel_rfl).symm.trans hf) |>.symm
      obtain rfl : fn = Tryd.f5 := (Option.some.inj (Tryd.func5.symm.trans hfn)).symm
      exact ⟨by kernel_rfl, fun j t ht => by
        rw [Tryd.params5] at ht
        have hm : t ∈ [37,38,23] := by simpa using Array.mem_of_getElem? ht
        have hall : ([37,38,23].all fun u => !Tryd.prog.wantsStandIn u) = true := by kernel_rfl
        exact (show Tryd.prog.wantsStandIn t = false by simpa using List.all_eq_true.1 hall t hm)⟩)
    (by kernel_rfl)
#print axioms passChecks_card
end Go.Proofs.YtpliokkmiijieaaDoor
