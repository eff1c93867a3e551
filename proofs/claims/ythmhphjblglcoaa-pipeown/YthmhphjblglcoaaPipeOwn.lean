/- Of whatever requests: what is handed in is not kept, and what is told is new memory. -/
import Derived.Test.YthmhphjblglcoaaRows
import Derived.Test.YthmhphjblglcoaaPiW
import Derived.WalkKit
import Derived.ProofKit
import Derived.OpenShut
import Derived.ShutString
import Derived.ChangeOld
import Derived.Below
namespace Go.Proofs.Ythmhphjblglcoaa.pipeOwn
open Go.ChangeShapes Go.WideShapes Go.ChangeAt Go.RowKit
open Go.ChangeMaps (open_string shut_string)
set_option linter.unusedVariables false

theorem own : ownKnob Try.prog.godebug = none := by kernel_rfl
theorem laidOut : laidOutB Try.prog = true := by kernel_rfl

theorem own_k {w : World} {base : Nat} {A : Option Addr} {k C : Nat} {zs : List Value} (h : w.ownsRow base 5 1 (.slice A k C) k zs) : k ≤ C := by
  rcases h.2 with ⟨hv, h0⟩ | ⟨g', cap', cur', hv, hB, hh, hnc, _⟩
  · rw [h0]; exact Nat.zero_le _
  · simp only [Value.slice.injEq] at hv; rw [hv.2.2]; exact hnc
set_option maxRecDepth 10000 in
set_option maxHeartbeats 8000000 in
theorem walk (a0 : Option Addr) (n0 c0 : Nat) (rs0 : List (Rq × List Int)) (w : World) (w0 : RsIn w a0 n0 rs0 ∧ n0 ≤ c0 ∧ (a0 = none → n0 = 0 ∧ c0 = 0)) :
    Calls Try.prog 5 #[.slice a0 n0 c0] w fun e w' => e = .returned (.bool true) ∧ Below w.heap.size w w' := by
  obtain ⟨hrs, hnc, hnil⟩ := w0
  have hln := hrs.1
  have H := hid_of hrs
  clear hrs hnc hnil
  by_cases h30 : (30 : Int) < n0
  · go_enter Try.func5, Try.ntmps5
    go_wp2_with (go_at_call 8; refine (known_b (Below.refl _ _)).mono ?_; rintro e V ⟨rfl, hb⟩)
    go_ret
    exact ⟨rfl, hb⟩
  · go_enter Try.func5, Try.ntmps5
    go_wp2_with (first
      | (go_at_call 8; refine (known_b (Below.refl _ _)).mono ?_; rintro e V ⟨rfl, hb⟩)
      | (go_at_call 9; refine (pNew_b hb).mono ?_; rintro e V1 ⟨b, rfl, hbb, hp1, hb1⟩)
      | (go_at_call 10; refine (dpNew_of All V1).mono ?_; rintro e V2 ⟨rfl, hr2, hb2⟩))
    obtain ⟨d, hd⟩ : ∃ d, d = V1.heap.size := ⟨_, rfl⟩
    rw [← hd]
    have HB : Hid (B2 w V2 b d [] []) := ⟨hp1.below hb2, by rw [hd]; exact hr2, hb1.trans (hb2.mono hb1.size), hbb, by rw [hd]; exact hb1.size⟩
    clear hb hbb hp1 hb1 hr2 hb2 hd
    go_loopw [5] (fun x wr => ∃ (j : Nat) (L : List Pq), x = .int .i64 j ∧ j ≤ n0 ∧ L.length ≤ 16 ∧ B2 w wr b d L L) (fun x _ => n0 - (intOf x).toNat)
    case atStart => exact ⟨0, [], rfl, Nat.zero_le _, by simp, HB.out⟩
    case round =>
      obtain ⟨j, L, rfl, hj, hL, hr⟩ := hrel
      by_cases hlt : j < n0
      · have hj' : (j : Int) < n0 := by omega
        have hwj : IntKind.i64.wrap ((j : Int) + 1) = (j : Int) + 1 := by rw [IntKind.wrap_i64]; omega
        obtain ⟨g, off, p, A, k, C, rfl, ho, hf, hd, hc⟩ := H.out.at hlt
        have hgb : g < w.heap.size := old_block (hc 0 _ rfl)
        have HCW : Hid (∀ V, Below w.heap.size w V → ∀ (i : Nat) (v : Value), (rqL p.1 (.slice A k C))[i]? = some v → V.cell? ⟨g, off + j * 6 + i, none⟩ = some v) := fun V hV i v hv => by rw [hV.cell hgb]; exact hc i v hv
        have x5 : wr.cell? ⟨g, off + j * 6 + 5, none⟩ = some (.slice A k C) := HCW.out _ hr.bel 5 _ rfl
        have HO := hid_of (And.intro hf (And.intro hd hr))
        clear ho hf hd hc hr hgb
        obtain ⟨⟨fl, kd, ck, ofs, ln⟩, D⟩ := p
        by_cases h1 : (100 : Int) < k
        · go_wp2
          go_ret
          exact ⟨rfl, HO.out.2.2.bel⟩
        · have hDr := hid_of (HO.out.2.1.below HO.out.2.2.bel)
          have hkn : D.length = k := HO.out.2.1.1.1
          go_wp2_with (at_builtin; refine wpList_append_bin rfl _ _ rfl wr.heap.size none 0 0 [] rfl (World.ownsRow_nil _ _ _ _) A k C D rfl hDr.out.1 hDr.out.2.2 (by omega) (Nat.le_refl _) ?_; intro A1 C1 w1 how hbl; rw [Nat.zero_add] at how; rw [Nat.zero_add]; have HW1 := hid_of (And.intro how hbl); have z0 : w1.cell? ⟨g, off + j * 6, none⟩ = some (.int .u16 fl) := HCW.out _ (HO.out.2.2.bel.trans (hbl.mono HO.out.2.2.bel.size)) 0 _ rfl; have z1 : w1.cell? ⟨g, off + j * 6 + 1, none⟩ = some (.int .u16 kd) := HCW.out _ (HO.out.2.2.bel.trans (hbl.mono HO.out.2.2.bel.size)) 1 _ rfl; have z2 : w1.cell? ⟨g, off + j * 6 + 2, none⟩ = some (.int .u64 ck) := HCW.out _ (HO.out.2.2.bel.trans (hbl.mono HO.out.2.2.bel.size)) 2 _ rfl; have z3 : w1.cell? ⟨g, off + j * 6 + 3, none⟩ = some (.int .u64 ofs) := HCW.out _ (HO.out.2.2.bel.trans (hbl.mono HO.out.2.2.bel.size)) 3 _ rfl; have z4 : w1.cell? ⟨g, off + j * 6 + 4, none⟩ = some (.int .u32 ln) := HCW.out _ (HO.out.2.2.bel.trans (hbl.mono HO.out.2.2.bel.size)) 4 _ rfl; have z5 : w1.cell? ⟨g, off + j * 6 + 5, none⟩ = some (.slice A k C) := HCW.out _ (HO.out.2.2.bel.trans (hbl.mono HO.out.2.2.bel.size)) 5 _ rfl; clear how hbl)
          have hb1 : Below wr.heap.size wr (w1.alloc (.cells #[.int .u16 fl, .int .u16 kd, .int .u64 ck, .int .u64 ofs, .int .u32 ln, .slice A1 k C1] 34)) := HW1.out.2.alloc HW1.out.2.size _
          have hbin1 := own_bin HW1.out.1 (by unfold maxLen; omega) HO.out.2.1.1.2.2.1
          have hcap1 := own_k HW1.out.1
          have hD1 : DIn (w1.alloc (.cells #[.int .u16 fl, .int .u16 kd, .int .u64 ck, .int .u64 ofs, .int .u32 ln, .slice A1 k C1] 34)) A1 k C1 D := ⟨hbin1.alloc _, hcap1, own_nil HW1.out.1⟩
          have HA := hid_of (bx_add (⟨fl, kd, ck, ofs, ln⟩, D) A A1 k C C1 HO.out.2.2 hb1 HO.out.2.1 hD1 (by omega) HO.out.1)
          have HOW : Hid (k ≠ 0 → ∃ q1, A1 = some ⟨q1, 0, none⟩ ∧ wr.heap.size ≤ q1 ∧ q1 < w1.heap.size ∧ OwnB (w1.alloc (.cells #[.int .u16 fl, .int .u16 kd, .int .u64 ck, .int .u64 ofs, .int .u32 ln, .slice A1 k C1] 34)) q1 k) := fun hk => by
            have hbk : BkAt (fun x => wr.heap.size ≤ x) w1 (.slice A1 k C1) D := ⟨by rw [hkn]; exact own_zero HW1.out.1, fun c hc => (HW1.out.1.lt c hc).1, HO.out.2.1.1.2.2.1, by omega⟩
            obtain ⟨q1, e1, h1, h2⟩ := bk_own hbk hk
            refine ⟨q1, e1, h1, ?_, h2.out (below_out Non ((Below.refl _ _).alloc (Nat.le_refl _) _)) (fun e => e)⟩
            obtain ⟨cs, hcs⟩ := h2.blk
            exact hcs.lt
          have hw1s : (w1.alloc (.cells #[.int .u16 fl, .int .u16 kd, .int .u64 ck, .int .u64 ofs, .int .u32 ln, .slice A1 k C1] 34)).heap.size = w1.heap.size + 1 := by simp
          have HS1 : Hid (wr.heap.size ≤ w1.heap.size ∧ w.heap.size ≤ wr.heap.size) := ⟨HW1.out.2.size, HO.out.2.2.bel.size⟩
          have HL' := hid_of (addL_few (⟨fl, kd, ck, ofs, ln⟩, D) hL)
          obtain ⟨L', hL'⟩ : ∃ L', L' = addL L (⟨fl, kd, ck, ofs, ln⟩, D) := ⟨_, rfl⟩
          obtain ⟨sz, hsz⟩ : ∃ sz, sz = (w1.alloc (.cells #[.int .u16 fl, .int .u16 kd, .int .u64 ck, .int .u64 ofs, .int .u32 ln, .slice A1 k C1] 34)).heap.size := ⟨_, rfl⟩
          rw [← hL', ← hsz] at HA
          rw [← hL'] at HL'
          have HSZ : Hid (sz = w1.heap.size + 1) := hsz.trans hw1s
          clear hb1 hbin1 hcap1 hD1 hL' hsz hw1s z0 z1 z2 z3 z4 z5
          go_wp2_with (first
            | (go_at_call 13; refine HA.out.mono ?_; rintro e w2 ⟨r1, rfl, hbw, hs⟩; have z0 : w2.cell? ⟨g, off + j * 6, none⟩ = some (.int .u16 fl) := HCW.out _ hbw 0 _ rfl; have z1 : w2.cell? ⟨g, off + j * 6 + 1, none⟩ = some (.int .u16 kd) := HCW.out _ hbw 1 _ rfl; have z2 : w2.cell? ⟨g, off + j * 6 + 2, none⟩ = some (.int .u64 ck) := HCW.out _ hbw 2 _ rfl; have z3 : w2.cell? ⟨g, off + j * 6 + 3, none⟩ = some (.int .u64 ofs) := HCW.out _ hbw 3 _ rfl; have z4 : w2.cell? ⟨g, off + j * 6 + 4, none⟩ = some (.int .u32 ln) := HCW.out _ hbw 4 _ rfl; have z5 : w2.cell? ⟨g, off + j * 6 + 5, none⟩ = some (.slice A k C) := HCW.out _ hbw 5 _ rfl; have HD := hid_of hs; clear hs hbw)
            | (go_at_call 14; refine HD.out.mono ?_; rintro e w3 ⟨r2, rfl, h3, h4⟩; have H3 := hid_of (And.intro h3 h4); clear h3 h4))
          have HI : Hid (BX (fun x => x < wr.heap.size ∨ sz ≤ x) w w3 b d L' ∧ (k ≠ 0 → ∃ q1, A1 = some ⟨q1, 0, none⟩ ∧ ¬ (q1 < wr.heap.size ∨ sz ≤ q1) ∧ w.heap.size ≤ q1 ∧ OwnB w3 q1 k)) := by
            refine ⟨H3.out.1, fun hk => ?_⟩
            obtain ⟨q1, e1, h1, h2, h3⟩ := HOW.out hk
            have := HSZ.out
            have := HS1.out
            exact ⟨q1, e1, by omega, by omega, H3.out.2 q1 k h3⟩
          clear HA HD H3 HOW HSZ HS1 z0 z1 z2 z3 z4 z5
          obtain ⟨wz, hwz⟩ : ∃ wz : Nat, wz = wr.heap.size := ⟨_, rfl⟩
          rw [← hwz] at HI
          clear hwz
          go_loopw [8] (fun x wq => ∃ (m : Nat), x = .int .i64 m ∧ m ≤ k ∧ BX (fun x => x < wz ∨ sz ≤ x) w wq b d L' ∧ (k ≠ 0 → ∃ q1, A1 = some ⟨q1, 0, none⟩ ∧ ¬ (q1 < wz ∨ sz ≤ q1) ∧ w.heap.size ≤ q1 ∧ OwnB wq q1 k)) (fun x _ => k - (intOf x).toNat)
          case atStart => exact ⟨0, rfl, Nat.zero_le _, HI.out⟩
          case round =>
            obtain ⟨m, rfl, hm, hx, hq⟩ := hrel
            by_cases hmk : m < k
            · have hmk' : (m : Int) < k := by omega
              have hwm : IntKind.i64.wrap ((m : Int) + 1) = (m : Int) + 1 := by rw [IntKind.wrap_i64]; omega
              obtain ⟨q1, rfl, hnX, hq1w, hown⟩ := hq (by omega)
              obtain ⟨xb, hxb, hfr⟩ := hown.at hmk
              have HN : Hid (∀ y, BX (fun x => x < wz ∨ sz ≤ x) w (wr.setCell ⟨q1, m, none⟩ (.int .u8 y)) b d L' ∧ (k ≠ 0 → ∃ q2, some (Addr.mk q1 0 none) = some ⟨q2, 0, none⟩ ∧ ¬ (q2 < wz ∨ sz ≤ q2) ∧ w.heap.size ≤ q2 ∧ OwnB (wr.setCell ⟨q1, m, none⟩ (.int .u8 y)) q2 k)) := fun y => ⟨hx.byte hown hnX hq1w, fun _ => ⟨q1, rfl, hnX, hq1w, hown.set q1 m y⟩⟩
              clear hx hq hnX hown HW1
              go_wp2
              go_roundw
              case rel => exact ⟨m + 1, by simp, by omega, HN.out _⟩
              case measure => simp [intOf]; omega
            · obtain rfl : m = k := by omega
              have HE := hid_of (hx.wider (Y := All) (fun _ _ _ => trivial))
              clear hx hq
              go_wp2
              go_roundw
              case rel => exact ⟨j + 1, L', by simp, by omega, HL'.out, HE.out.p, HE.out.r, HE.out.bel, HE.out.hb, HE.out.hd⟩
              case measure => simp [intOf]; omega
      · obtain rfl : j = n0 := by omega
        obtain ⟨nn, hnn⟩ : ∃ nn : Nat, nn = L.length := ⟨_, rfl⟩
        have HAll : Hid (Calls Try.prog 23 #[.pointer (some ⟨b, 0, none⟩)] wr fun e w' => ∃ A C, e = .returned (.slice A nn C) ∧ Gr (fun x => wr.heap.size ≤ x) wr.heap.size wr w' A C L) := by rw [hnn]; exact pAll_of hr.p
        have HR := hid_of (And.intro hr (And.intro hnn hL))
        have hn16 : nn ≤ 16 := by omega
        clear hr hnn
        obtain ⟨V9, hV9⟩ : ∃ V9 : World, V9 = wr := ⟨_, rfl⟩
        go_wp2_with (go_at_call 23; refine HAll.out.mono ?_; rintro e w5 ⟨A5, C5, rfl, hg⟩; have HG := hid_of hg; clear hg)
        rw [← hV9] at HR HG
        clear HAll hV9
        have HI : Hid (Below V9.heap.size V9 w5 ∧ (nn ≠ 0 → ∃ g vs, A5 = some ⟨g, 0, none⟩ ∧ AllW V9 w5 g nn vs 0)) := by
          refine ⟨HG.out.bel, fun hn => ?_⟩
          have e := HR.out.2.1
          rw [e] at hn ⊢
          exact HG.out.allW hn
        clear HG
        go_loopw [10] (fun x wq => ∃ (i : Nat), x = .int .i64 i ∧ i ≤ nn ∧ Below V9.heap.size V9 wq ∧ (nn ≠ 0 → ∃ g vs, A5 = some ⟨g, 0, none⟩ ∧ AllW V9 wq g nn vs i)) (fun x _ => nn - (intOf x).toNat)
        case atStart => exact ⟨0, rfl, Nat.zero_le _, HI.out⟩
        case round =>
          obtain ⟨i, rfl, hi, hbq, haq⟩ := hrel
          by_cases hin : i < nn
          · have hin' : (i : Int) < nn := by omega
            have hwi : IntKind.i64.wrap ((i : Int) + 1) = (i : Int) + 1 := by rw [IntKind.wrap_i64]; omega
            obtain ⟨g, vs, rfl, hA⟩ := haq (by omega)
            obtain ⟨A6, k6, C6, hc6, hv6, hk6, hd6⟩ := hA.at hin
            have H6 := hid_of (And.intro hA hv6)
            clear hA haq hbq hc6 hd6 hv6
            go_wp2
            go_loopw [11] (fun y wq => ∃ (m : Nat), y = .int .i64 m ∧ m ≤ k6 ∧ AllW V9 wq g nn vs i) (fun y _ => k6 - (intOf y).toNat)
            case atStart => exact ⟨0, rfl, Nat.zero_le _, H6.out.1⟩
            case round =>
              obtain ⟨m, rfl, hm, hA⟩ := hrel
              obtain ⟨A7, k7, C7, hc7, hv7, hk7, hd7⟩ := hA.at hin
              obtain ⟨rfl, rfl, rfl⟩ : A7 = A6 ∧ k7 = k6 ∧ C7 = C6 := by
                have := H6.out.2
                rw [hv7] at this
                simpa using this
              by_cases hmk : m < k7
              · have hmk' : (m : Int) < k7 := by omega
                have hwm : IntKind.i64.wrap ((m : Int) + 1) = (m : Int) + 1 := by rw [IntKind.wrap_i64]; omega
                obtain ⟨q, rfl, hqV, hown⟩ := hd7 (by omega)
                obtain ⟨xb, hxb, hfr⟩ := hown.at hmk
                have HN := hid_of (hA.byte (k := m) (y := 119) hown hqV)
                clear hA hown hd7
                go_wp2
                go_roundw
                case rel => exact ⟨m + 1, by simp, by omega, HN.out⟩
                case measure => simp [intOf]; omega
              · obtain rfl : m = k7 := by omega
                obtain ⟨hth, hz⟩ := hA.zero hin
                have HZ : Hid (AllW V9 ((((((wr.setCell ⟨g, i * 6, none⟩ (.int .u16 0)).setCell ⟨g, i * 6 + 1, none⟩ (.int .u16 0)).setCell ⟨g, i * 6 + 2, none⟩ (.int .u64 0)).setCell ⟨g, i * 6 + 3, none⟩ (.int .u64 0)).setCell ⟨g, i * 6 + 4, none⟩ (.int .u32 0)).setCell ⟨g, i * 6 + 5, none⟩ (.slice none 0 0)) g nn vs (i + 1)) := hz
                obtain ⟨y0, g0⟩ := Option.isSome_iff_exists.1 (hth 0 (by decide)).1
                have f0 := (hth 0 (by decide)).2
                obtain ⟨y1, g1⟩ := Option.isSome_iff_exists.1 (hth 1 (by decide)).1
                have f1 := (hth 1 (by decide)).2
                obtain ⟨y2, g2⟩ := Option.isSome_iff_exists.1 (hth 2 (by decide)).1
                have f2 := (hth 2 (by decide)).2
                obtain ⟨y3, g3⟩ := Option.isSome_iff_exists.1 (hth 3 (by decide)).1
                have f3 := (hth 3 (by decide)).2
                obtain ⟨y4, g4⟩ := Option.isSome_iff_exists.1 (hth 4 (by decide)).1
                have f4 := (hth 4 (by decide)).2
                obtain ⟨y5, g5⟩ := Option.isSome_iff_exists.1 (hth 5 (by decide)).1
                have f5 := (hth 5 (by decide)).2
                simp only [Nat.add_zero] at g0 f0
                clear hth hz hA hd7
                go_wp2_with fail
                exact ⟨⟨i + 1, by simp, by omega, HZ.out.bel, fun _ => ⟨g, vs, rfl, HZ.out⟩⟩, by simp [intOf]; omega⟩
          · obtain rfl : i = nn := by omega
            have hBV := HR.out.1.below hbq
            have HA2 := hid_of (bo_all i HR.out.2.1.symm hBV HR.out.2.2)
            clear haq hbq hBV
            go_wp2_with (first
              | (go_at_call 23; refine HA2.out.mono ?_; rintro e w6 ⟨A6, C6, rfl, hs6⟩; have HS6 := hid_of hs6; clear hs6)
              | (go_at_call 24; refine HS6.out.mono ?_; rintro e w7 ⟨A7, C7, rfl, hs7⟩; have HS7 := hid_of hs7; clear hs7)
              | (go_at_call 22; refine HS7.out.mono ?_; rintro e w8 ⟨rfl, h8⟩; have HR8 := hid_of h8; clear h8))
            go_ret
            exact ⟨rfl, HR8.out.bel⟩

set_option maxRecDepth 100000 in
theorem lifted (os : Os) (started : os.Started) (H : Type) (enc : TypeId × Value → H) :
    ReturnsInHanded {} Try.checked os 5 .any (Rows.pipeOwnSpec.pre6 enc Try.prog Try.f5 Rows.pipeOwnRow.domain false) (Rows.pipeOwnSpec.post enc Try.prog Try.f5 false true false false) := by
  refine returnsInHanded_of_change (C := Try.checked) own started (by kernel_rfl) Try.func5
    (ChangeSpec.witness6 (enc := enc) (C := Try.checked) false ⟨#[], #[.slice none 0 0], []⟩ 8 (by kernel_rfl) (by kernel_rfl) (by kernel_rfl) (by kernel_rfl)) ?_
  intro W base args ds gs before hval0 hW hcnd _
  have hval : ∀ (j : Nat) t v, Try.f5.params[j]? = some t → args[j]? = some v → Value.okWide Try.prog W .any base t v := hval0
  have hW' := hW
  obtain ⟨p, q, hA0, hV, rfl, hfz, hnd⟩ := hW
  have hA : DataW.TrodAll enc Try.prog W 0 (fun _ => true) true Try.f5.params.toList args.toList ds p := hA0
  rw [Try.params5] at hA hval
  obtain ⟨v0, vs0, d0, ds0, p0, q0, hargs, rfl, rfl, h0, r0⟩ := trodAll_cons hA
  obtain ⟨rfl, rfl, rfl⟩ := trodAll_nil r0
  obtain rfl : args = #[v0] := by cases args; simp_all
  obtain ⟨rfl, rfl⟩ := trodVars_none hV
  obtain ⟨a0, n0, c0, rfl⟩ := okWide_slice Try.underlying43 (hval 0 43 v0 rfl rfl)
  have k0 := h0
  have lt0 : ∀ x ∈ p0, x.block < W.heap.size := by obtain ⟨m, hm⟩ := k0; exact DataW.trod_lt m _ _ _ hm
  obtain ⟨rs0, w0⟩ := open_requests h0
  clear hA0 hval0
  refine (walk a0 n0 c0 rs0 W w0).mono fun e W' ⟨he, bel⟩ => ?_
  subst he
  exact ⟨_, rfl, _, _, _, [], _, [], hW', trodAll_mk1 (shut_bool Try.underlying4 _), (trodAll_cons_mk (Below.trod laidOut (by kernel_rfl) (of_decide_eq_true (by kernel_rfl)) k0 bel lt0) trodAll_mk0), rfl, bel.frame _, fun h => by cases h⟩

theorem over : Rows.pipeOwnRow.holds Try.pinned (OpenSpec.ofChange Rows.pipeOwnSpec) :=
  OpenClaim.holds_of_wide 5 Try.f5 rfl rfl rfl rfl rfl rfl rfl ⟨rfl, rfl, rfl, rfl, rfl⟩ rfl rfl rfl rfl rfl (by kernel_rfl) Try.func5 (by kernel_rfl)
    (of_decide_eq_true (by kernel_rfl)) (by unfold Func.isWrapper; first | (rw [if_pos (by decide +kernel)]; kernel_rfl) | (rw [if_neg (by decide +kernel)]; exact ⟨rfl, rfl⟩))
    (fun os started H enc _ => lifted os started H enc)

end Go.Proofs.Ythmhphjblglcoaa.pipeOwn
namespace Go.Proofs.Ythmhphjblglcoaa
/-- The statement. -/
theorem pipeOwn_holds : Rows.PipeOwnSaid := pipeOwn.over
#print axioms pipeOwn_holds
end Go.Proofs.Ythmhphjblglcoaa
